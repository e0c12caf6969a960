/- SeqTells' walk. -/
import Derived.Test.YtmkbbndfdgnakaaSqY
import Derived.Test.YtmkbbndfdgnakaaSqE
import Derived.Test.YtmkbbndfdgnakaaOk
import Derived.Test.YtmkbbndfdgnakaaRi
namespace Go.Proofs.Ytmkbbndfdgnakaa
open Go.RowKit
set_option linter.unusedVariables false
set_option linter.unusedSimpArgs false
set_option maxRecDepth 20000

theorem wf16 {x : Int} (h : (Lit.int .u16 x).wf = true) : ∃ k : Nat, x = (k : Int) ∧ k < 65536 := by
  simp [Lit.wf, IntKind.min, IntKind.max, IntKind.signed, IntKind.bits] at h
  exact ⟨x.toNat, by omega, by omega⟩
theorem wf32 {x : Int} (h : (Lit.int .u32 x).wf = true) : ∃ k : Nat, x = (k : Int) ∧ k < 4294967296 := by
  simp [Lit.wf, IntKind.min, IntKind.max, IntKind.signed, IntKind.bits] at h
  exact ⟨x.toNat, by omega, by omega⟩
set_option maxHeartbeats 4000000 in
theorem seqTells_walk (last xi mi : Int) (A : Option Addr) (n c : Nat) (F : Nat → Nat) (A' : Option Addr) (n' c' : Nat) (w : World) (hl : I64 last) (hx : (Lit.int .u16 xi).wf = true) (hm : (Lit.int .u32 mi).wf = true) (h : RK .u16 65536 w w.heap.size A n c F) (hn : n ≤ 281474976710656) (h' : RI w w.heap.size A' n' c') (hn' : n' ≤ 281474976710656) :
    Calls Try.prog 4 #[.int .i64 last, .int .u16 xi, .int .u32 mi, .slice A n c, .slice A' n' c'] w (Yes w) := by
  obtain ⟨x, rfl, hx1⟩ := wf16 hx
  obtain ⟨m, rfl, hm1⟩ := wf32 hm
  obtain ⟨l40, hl40, hl40l⟩ := bits_and_at last (m := 1099511627775) (M := 1099511627775) rfl (by omega)
  have hI40 : I64 (l40 : Int) := by unfold I64; omega
  have HR := Lib.hid h
  have HI := Lib.hid h'
  have HX := Lib.hid (⟨hl, hx1, hm1, hI40⟩ : _ ∧ _ ∧ _ ∧ _)
  clear h h' hl hx hm hm1 hI40 hl40l
  go_enter Try.func4, Try.ntmps4
  go_wp2_with fail
  go_loopw [11, 12, 13] (fun v a i wr => (∃ (q : Nat) (t : Int) (B : Option Addr) (cb : Nat), q ≤ 150 ∧ i = .int .i64 (q : Int) ∧ v = .slice B q cb ∧ a = .int .i64 t ∧ -1000 ≤ t ∧ t ≤ 100000 ∧ Hid (∃ l, NumH w q v l wr ∧ t ≤ 65535 + q * 10 ∧ -5 * (q : Int) ≤ t))) (fun _ _ i _ => 150 - (intOf i).toNat)
  case atStart => exact ⟨0, (x : Int), none, 0, by omega, rfl, rfl, rfl, by omega, by omega, Lib.hid ⟨[], NumH.start (Below.refl _ _), by omega, by omega⟩⟩
  case round =>
    obtain ⟨q, t, B, cb, hq, rfl, rfl, rfl, ht1, ht2, HQ⟩ := hrel
    obtain ⟨l, hs, ht3, ht4⟩ := HQ.out
    have HS := Lib.hid (⟨hs, ht3, ht4⟩ : _ ∧ _ ∧ _)
    clear hs ht3 ht4 HQ
    by_cases hlt : q < n' ∧ q < 150
    · obtain ⟨h1, h2⟩ := hlt
      have g1 : decide ((q : Int) < (n' : Int)) = true := by simp; omega
      have g1' : (q : Int) < (n' : Int) := by omega
      have g2 : decide ((q : Int) < 150) = true := by simp; omega
      have g2' : (q : Int) < 150 := by omega
      obtain ⟨bA, off, rfl, hbA, hc⟩ := (HI.out.keep HS.out.1.below).2 (by omega)
      obtain ⟨z, _, x0⟩ := hc q h1
      obtain ⟨k, hk, hkl⟩ := bits_and_at z (m := 15) (M := 15) rfl (by omega)
      obtain ⟨y, hy⟩ : ∃ y, y = t + (k : Int) - 5 := ⟨_, rfl⟩
      have y1 : IntKind.i64.wrap (t + (k : Int) - 5) = y := by rw [hy, IntKind.wrap_i64]; omega
      obtain ⟨ky, ky1, ky2, ky3⟩ := u16_of y
      have hy1 : -1000 ≤ y ∧ y ≤ 100000 := by have := HS.out.2; omega
      have HY := Lib.hid (⟨hy, hkl, hy1⟩ : _ ∧ _ ∧ _)
      have oA := HS.out.1.own.on ((Below.refl _ wr).alloc (Nat.le_refl _) (.cells #[.int .u16 (ky : Int)] 23))
      have rA := one_h16 wr ky
      have sA : w.heap.size ≤ (wr.alloc (.cells #[.int .u16 (ky : Int)] 23)).heap.size := by have := HS.out.1.below.size; simp; omega
      have hll : l.length + 1 ≤ 1000000 := by have := HS.out.1.len; omega
      have HO := Lib.hid (⟨oA, rA, sA, hll, ky2⟩ : _ ∧ _ ∧ _ ∧ _ ∧ _)
      clear hc hbA oA rA sA hll ky2 ky3 hy hy1
      go_wp2_with (at_builtin; go_loud (with_reducible refine wpList_appendH rfl (.tmp 34) (.tmp 37) rfl rfl w.heap.size (.slice B q cb) l (by with_unfolding_all rfl) HO.out.1 _ _ ky (by with_unfolding_all rfl) HO.out.2.1 HO.out.2.2.2.1 HO.out.2.2.1 ?_); intro v9 w9 ha9)
      have HR9 := Lib.hid (HS.out.1.more HO.out.2.2.2.2 ha9.1 ha9.2)
      obtain ⟨A9, c9, e9⟩ := HR9.out.val
      have HE := Lib.hid e9
      clear ha9 e9
      go_roundw
      case rel => exact ⟨q + 1, y, A9, c9, by omega, by go_num, HE.out, rfl, HY.out.2.2.1, HY.out.2.2.2, Lib.hid ⟨_, HR9.out, by have := HY.out; have := HS.out.2; omega, by have := HY.out; have := HS.out.2; omega⟩⟩
      case measure => simp [intOf]; omega
    · by_cases h1 : q < n'
      · have g1 : decide ((q : Int) < (n' : Int)) = true := by simp; omega
        have g1' : (q : Int) < (n' : Int) := by omega
        have g2 : decide ((q : Int) < 150) = false := by simp; omega
        clear hlt
        go_wp2_with fail
        refine (same15_any last x m HX.out.1 HX.out.2.1 HX.out.2.2.1 _).mono ?_
        rintro e w1 ⟨rfl, b1⟩
        have H1 := Lib.hid (HS.out.1.on b1)
        clear b1 HS
        go_wp2_with fail
        refine (same15_any (l40 : Int) x m HX.out.2.2.2 HX.out.2.1 HX.out.2.2.1 _).mono ?_
        rintro e w2 ⟨rfl, b2⟩
        have H2 := Lib.hid (H1.out.on b2)
        clear b2 H1
        go_wp2_with fail
        refine (play_any A n c F _ (HR.out.on H2.out.below) hn).mono ?_
        rintro e w3 ⟨rfl, b3⟩
        have H3 := Lib.hid (H2.out.on b3)
        clear b3 H2
        go_wp2_with fail
        refine (play_any B q cb _ _ H3.out.rk (by omega)).mono ?_
        rintro e w4 ⟨rfl, b4⟩
        have H4 := Lib.hid (H3.out.on b4)
        clear b4 H3
        go_wp2_with fail
        refine (known15_any _).mono ?_
        rintro e w5 ⟨rfl, b5⟩
        have H5 := Lib.hid (H4.out.on b5)
        clear b5 H4
        go_wp2_with fail
        go_ret
        exact ⟨rfl, H5.out.below⟩
      · have g1 : decide ((q : Int) < (n' : Int)) = false := by simp; omega
        clear hlt
        go_wp2_with fail
        refine (same15_any last x m HX.out.1 HX.out.2.1 HX.out.2.2.1 _).mono ?_
        rintro e w1 ⟨rfl, b1⟩
        have H1 := Lib.hid (HS.out.1.on b1)
        clear b1 HS
        go_wp2_with fail
        refine (same15_any (l40 : Int) x m HX.out.2.2.2 HX.out.2.1 HX.out.2.2.1 _).mono ?_
        rintro e w2 ⟨rfl, b2⟩
        have H2 := Lib.hid (H1.out.on b2)
        clear b2 H1
        go_wp2_with fail
        refine (play_any A n c F _ (HR.out.on H2.out.below) hn).mono ?_
        rintro e w3 ⟨rfl, b3⟩
        have H3 := Lib.hid (H2.out.on b3)
        clear b3 H2
        go_wp2_with fail
        refine (play_any B q cb _ _ H3.out.rk (by omega)).mono ?_
        rintro e w4 ⟨rfl, b4⟩
        have H4 := Lib.hid (H3.out.on b4)
        clear b4 H3
        go_wp2_with fail
        refine (known15_any _).mono ?_
        rintro e w5 ⟨rfl, b5⟩
        have H5 := Lib.hid (H4.out.on b5)
        clear b5 H4
        go_wp2_with fail
        go_ret
        exact ⟨rfl, H5.out.below⟩
end Go.Proofs.Ytmkbbndfdgnakaa
