/- LimitPlays' walk. -/
import Derived.Test.YtfijlgkgbbemnaaLmZ
import Derived.Test.YtfijlgkgbbemnaaNm
namespace Go.Proofs.Ytfijlgkgbbemnaa.RP
open Go.RowKit
set_option linter.unusedVariables false
set_option linter.unusedSimpArgs false
set_option maxRecDepth 20000

set_option maxHeartbeats 4000000 in
theorem limitPlays_walk (ca : Int) (A : Option Addr) (n c : Nat) (L : List Ask) (w : World) (hca : I64 ca) (h : RA w w.heap.size A n c L) (hn : n ≤ 3518437208882) :
    Calls Try.prog 4 #[.int .i64 ca, .slice A n c] w (Yes w) := by
  have HR := Lib.hid (fun W (hb : Below w.heap.size w W) => h.below hb)
  have HI := Lib.hid (⟨h.1, h.2.1⟩ : L.length = n ∧ ∀ x ∈ L, x.In)
  have HRW := Lib.hid (fun W (hb : Below w.heap.size w W) => (h.below hb).more hb.size)
  clear h
  go_enter Try.func4, Try.ntmps4
  go_wp2_with fail
  go_loopw [5, 6, 7, 12] (fun v nw _ i wr => ∃ (q : Nat) (S : List Ask) (vv : Value) (nn : Int), v = vv ∧ nw = .int .i64 nn ∧ q ≤ n ∧ i = .int .i64 (q : Int) ∧ Hid (OwnA wr w.heap.size vv S ∧ (∀ x ∈ S, x.In) ∧ S.length = q ∧ I64 nn ∧ Below w.heap.size w wr)) (fun _ _ _ i _ => n - (intOf i).toNat)
  case atStart => exact ⟨0, [], _, 0, rfl, rfl, by omega, rfl, Lib.hid ⟨OwnA.nil _ _, by simp, rfl, ⟨by decide, by decide⟩, Below.refl _ _⟩⟩
  case round =>
    obtain ⟨q, S, vv, nw, rfl, rfl, hqn, rfl, HS⟩ := hrel
    by_cases hlt : q < n
    · have g1 : decide ((q : Int) < (n : Int)) = true := by simp; omega
      have g3 : (q : Int) < (n : Int) := by omega
      obtain ⟨hown, hSi, hSl, hnw, hbw⟩ := HS.out
      obtain ⟨AS, cS, hv, _, _⟩ := hown.ra hSi
      rw [hSl] at hv
      subst hv
      have hql : q < L.length := by rw [HI.out.1]; exact hlt
      obtain ⟨b, off, rfl, hb, c0, c1, c2, c3, c4⟩ := (HR.out wr hbw).at (q := q) hql
      have hxi := HI.out.2 L[q] (List.getElem_mem hql)
      generalize L[q] = x at c0 c1 c2 c3 c4 hxi
      obtain ⟨kd, ⟨xo, xr, xv⟩, nn⟩ := x
      replace c0 : wr.cell? ⟨b, off + q * 5, none⟩ = some (.int .i64 kd) := c0
      replace c1 : wr.cell? ⟨b, off + q * 5 + 1, none⟩ = some (.int .u32 (xo : Int)) := c1
      replace c2 : wr.cell? ⟨b, off + q * 5 + 2, none⟩ = some (.int .u64 (xr : Int)) := c2
      replace c3 : wr.cell? ⟨b, off + q * 5 + 3, none⟩ = some (.int .i64 xv) := c3
      replace c4 : wr.cell? ⟨b, off + q * 5 + 4, none⟩ = some (.int .i64 nn) := c4
      obtain ⟨k, hk0, hk5, _, hwi⟩ := within_ex kd 0 5 hxi.kind (by decide) (by decide) (by decide)
      obtain ⟨yo, hyo, hyol⟩ := and32_at (xo : Int) (m := 15) (M := 15) rfl (by decide)
      obtain ⟨yr, hyr, hyrl⟩ := and64_at (xr : Int) (m := 1048575) (M := 1048575) rfl (by decide)
      obtain ⟨yv, hyv, hyvl⟩ := bits_and_at xv (m := 127) (M := 127) rfl (by decide)
      obtain ⟨z, hz, hzl⟩ := bits_and_at nn (m := 262143) (M := 262143) rfl (by decide)
      obtain ⟨nx, hnx, hnxi⟩ : ∃ nx, IntKind.i64.wrap (nw + (z : Int)) = nx ∧ I64 nx := ⟨_, rfl, by have := IntKind.wrap_i64 (nw + (z : Int)); unfold I64; omega⟩
      have HW := Lib.hid hwi
      have HIN : Hid (Ask.In ⟨k, ⟨yo, yr, (yv : Int)⟩, nx⟩) := Lib.hid ⟨by show I64 k; unfold I64; clear hyo hyr hyv hz hnx; omega, ⟨by show yo < _; clear hyo hyr hyv hz hnx; omega, by show yr < _; clear hyo hyr hyv hz hnx; omega, by show I64 (yv : Int); unfold I64; clear hyo hyr hyv hz hnx; omega⟩, hnxi⟩
      have H0 := Lib.hid (⟨hown.on (belowA wr (.cells #[.int .i64 k, .int .u32 (yo : Int), .int .u64 (yr : Int), .int .i64 (yv : Int), .int .i64 nx] 34)), hbw.trans ((belowA wr (.cells #[.int .i64 k, .int .u32 (yo : Int), .int .u64 (yr : Int), .int .i64 (yv : Int), .int .i64 nx] 34)).mono hbw.size), (Blk.new wr 34 #[.int .i64 k, .int .u32 (yo : Int), .int .u64 (yr : Int), .int .i64 (yv : Int), .int .i64 nx])⟩ : _ ∧ _ ∧ _)
      have HSI := Lib.hid (⟨hSi, hSl⟩ : _ ∧ _)
      clear hb hxi hwi hk0 hk5 hyol hyrl hyvl hzl hnxi hown hbw hSi hSl HS hql hnw
      go_upto_region 7 with (fail)
      clear c0 c1 c2 c3 c4
      go_wp2_with fail
      ((with_reducible refine (HW.out _).mono ?_); rintro e w2 ⟨rfl, rfl⟩)
      go_upto_region 10 with (fail)
      clear hyo hyr hyv hz hnx g1 g3
      generalize wr.alloc (.cells #[.int .i64 k, .int .u32 (yo : Int), .int .u64 (yr : Int), .int .i64 (yv : Int), .int .i64 nx] 34) = W3 at H0 ⊢
      generalize wr.heap.size = gy at H0 ⊢
      have k0 : W3.cell? ⟨gy, 0, none⟩ = some (.int .i64 k) := H0.out.2.2.cell 0
      have k1 : W3.cell? ⟨gy, 1, none⟩ = some (.int .u32 (yo : Int)) := H0.out.2.2.cell 1
      have k2 : W3.cell? ⟨gy, 2, none⟩ = some (.int .u64 (yr : Int)) := H0.out.2.2.cell 2
      have k3 : W3.cell? ⟨gy, 3, none⟩ = some (.int .i64 (yv : Int)) := H0.out.2.2.cell 3
      have k4 : W3.cell? ⟨gy, 4, none⟩ = some (.int .i64 nx) := H0.out.2.2.cell 4
      have bA := belowA W3 (.cells #[.int .i64 k, .int .u32 (yo : Int), .int .u64 (yr : Int), .int .i64 (yv : Int), .int .i64 nx] 34)
      have oA := H0.out.1.on bA
      have rA := one_ra W3 ⟨k, ⟨yo, yr, (yv : Int)⟩, nx⟩ HIN.out
      have bA9 := H0.out.2.1.trans (bA.mono H0.out.2.1.size)
      simp only at rA
      have sA := bA9.size
      have HL := Lib.hid (show S.length + 1 ≤ 3518437208883 by rw [HSI.out.2]; omega)
      clear bA
      go_wp2_with (at_builtin; go_loud (with_reducible refine wpList_appendA rfl (.tmp 48) (.tmp 50) rfl rfl w.heap.size (.slice AS q cS) S (by with_unfolding_all rfl) oA _ _ 1 1 [⟨k, ⟨yo, yr, (yv : Int)⟩, nx⟩] (by with_unfolding_all rfl) rA HL.out sA ?_); intro v9 w9 ha9)
      have b9 := below_grown bA9 sA ha9.2 (fun kk hkk => (World.ownsRow.lt oA kk hkk).1)
      have HZ : Hid (OwnA w9 w.heap.size v9 (S ++ [⟨k, ⟨yo, yr, (yv : Int)⟩, nx⟩]) ∧ (∀ x ∈ S ++ [(⟨k, ⟨yo, yr, (yv : Int)⟩, nx⟩ : Ask)], x.In) ∧ (S ++ [(⟨k, ⟨yo, yr, (yv : Int)⟩, nx⟩ : Ask)]).length = q + 1 ∧ I64 nx ∧ Below w.heap.size w w9) := Lib.hid ⟨ha9.1, fun x hx => by
        rcases List.mem_append.1 hx with h1 | h1
        · exact HSI.out.1 x h1
        · rw [List.mem_singleton] at h1
          rw [h1]
          exact HIN.out, by rw [List.length_append, HSI.out.2]; rfl, HIN.out.n, b9⟩
      clear ha9 oA rA bA9 b9 sA k0 k1 k2 k3 k4
      go_wp2_with fail
      go_roundw
      case rel => exact ⟨q + 1, _, _, _, rfl, rfl, by omega, by go_num, HZ⟩
      case measure => simp [intOf]; omega
    · have g1 : decide ((q : Int) < (n : Int)) = false := by simp; omega
      obtain ⟨hown, hSi, hSl, hnw, hbw⟩ := HS.out
      obtain ⟨AS, cS, hv, hra, _⟩ := hown.ra hSi
      rw [hSl] at hv hra
      subst hv
      have HP := Lib.hid (fun W (hb : Below wr.heap.size wr W) => play_any ca hca AS q cS S W (hra.on hb) (by omega))
      have HB := Lib.hid hbw
      clear hown hSi hSl hnw hbw hra HS
      obtain ⟨wo, rfl⟩ : ∃ wo, wo = wr := ⟨_, rfl⟩
      go_wp2_with fail
      go_loopw [9, 55] (fun _ i wr => ∃ j : Nat, j ≤ n ∧ i = .int .i64 (j : Int) ∧ wr = wo) (fun _ i _ => n - (intOf i).toNat)
      case atStart => exact ⟨0, by omega, rfl, rfl⟩
      case round =>
        obtain ⟨j, hj, rfl, hw⟩ := hrel
        subst hw
        by_cases hjl : j < n
        · have g2 : decide ((j : Int) < (n : Int)) = true := by simp; omega
          have g3 : (j : Int) < (n : Int) := by omega
          have hql : j < L.length := by rw [HI.out.1]; exact hjl
          obtain ⟨b, off, rfl, hb, d0, d1, d2, d3, c4⟩ := (HR.out _ HB.out).at (q := j) hql
          clear d0 d1 d2 d3 hb
          generalize L[j].n = nn at c4
          by_cases k1 : (4611686018427387904 : Int) < nn
          · have t1 : decide ((4611686018427387904 : Int) < nn) = true := decide_eq_true k1
            clear k1
            go_wp2_with fail
            ((with_reducible refine (HP.out _ (Below.refl _ _)).mono ?_); rintro e w3 ⟨rfl, b3⟩)
            have H3 := Lib.hid (HB.out.trans (b3.mono HB.out.size))
            clear b3
            go_wp2_with fail
            ((with_reducible refine (known14_any _).mono ?_); rintro e w4 ⟨rfl, b4⟩)
            have H4 := Lib.hid (H3.out.trans (b4.mono H3.out.size))
            clear b4
            go_wp2_with fail
            go_ret
            exact ⟨rfl, H4.out⟩
          · have t1 : decide ((4611686018427387904 : Int) < nn) = false := decide_eq_false k1
            clear k1
            by_cases k2 : nn < (-4611686018427387904 : Int)
            · have t2 : decide (nn < (-4611686018427387904 : Int)) = true := decide_eq_true k2
              clear k2
              go_wp2_with fail
              ((with_reducible refine (HP.out _ (Below.refl _ _)).mono ?_); rintro e w3 ⟨rfl, b3⟩)
              have H3 := Lib.hid (HB.out.trans (b3.mono HB.out.size))
              clear b3
              go_wp2_with fail
              ((with_reducible refine (known14_any _).mono ?_); rintro e w4 ⟨rfl, b4⟩)
              have H4 := Lib.hid (H3.out.trans (b4.mono H3.out.size))
              clear b4
              go_wp2_with fail
              go_ret
              exact ⟨rfl, H4.out⟩
            · have t2 : decide (nn < (-4611686018427387904 : Int)) = false := decide_eq_false k2
              clear k2
              go_wp2_with fail
              go_roundw
              case rel => exact ⟨j + 1, by omega, by go_num, trivial⟩
              case measure => simp [intOf]; omega
        · have g2 : decide ((j : Int) < (n : Int)) = false := by simp; omega
          go_wp2_with fail
          ((with_reducible refine (HP.out _ (Below.refl _ _)).mono ?_); rintro e w3 ⟨rfl, b3⟩)
          have H3 := Lib.hid (HB.out.trans (b3.mono HB.out.size))
          clear b3
          go_wp2_with fail
          ((with_reducible refine (play_any ca hca A n c L w3 (HRW.out _ H3.out) hn).mono ?_); rintro e w4 ⟨rfl, b4⟩)
          have H4 := Lib.hid (H3.out.trans (b4.mono H3.out.size))
          clear b4
          go_wp2_with fail
          ((with_reducible refine (known14_any _).mono ?_); rintro e w5 ⟨rfl, b5⟩)
          have H5 := Lib.hid (H4.out.trans (b5.mono H4.out.size))
          clear b5
          go_wp2_with fail
          go_ret
          exact ⟨rfl, H5.out⟩
end Go.Proofs.Ytfijlgkgbbemnaa.RP
