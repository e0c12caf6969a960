/- LimitSet's walk. -/
import Derived.Test.YtfijlgkgbbemnaaLmQ
namespace Go.Proofs.Ytfijlgkgbbemnaa
open Go.RowKit
set_option linter.unusedVariables false
set_option linter.unusedSimpArgs false
set_option maxRecDepth 20000

set_option maxHeartbeats 4000000 in
theorem limitSet_walk (A : Option Addr) (n c : Nat) (l : List Ask) (w : World) (h : RA w w.heap.size A n c l) (hn : n ≤ 3518437208882) : Calls Try.prog 6 #[.slice A n c] w (Yes w) := by
  have HR := Lib.hid (fun W (hb : Below w.heap.size w W) => h.below hb)
  have HI := Lib.hid (⟨h.1, h.2.1⟩ : l.length = n ∧ ∀ x ∈ l, x.In)
  have IC := Lib.hid (fun (k : Int) (h1 : -1 ≤ k) (h2 : k ≤ 1099511627776) => (by unfold I64; omega : I64 k))
  clear h
  go_enter Try.func6, Try.ntmps6
  go_wp2_with fail
  ((with_reducible refine (lm_new_at 1099511627776 (IC.out _ (by decide) (by decide)) _ (c := 1099511627776) l_cap).mono ?_); rintro e w1 ⟨G, S, rfl, h1⟩)
  have H1 := Lib.hid h1
  clear h1
  go_wp2_with fail
  go_loopw [4] (fun i wr => ∃ q : Nat, q ≤ n ∧ q ≤ 40 ∧ i = .int .i64 (q : Int) ∧ Hid (∃ (E : Ents) (S : Nat → Prop), SmallE E ∧ LmP1 w G 1099511627776 none E S wr)) (fun i _ => 40 - (intOf i).toNat)
  case atStart => exact ⟨0, by omega, by omega, rfl, Lib.hid ⟨[], S, SmallE.nil, H1.out⟩⟩
  case round =>
    obtain ⟨q, hqn, hq, rfl, HQ⟩ := hrel
    clear H1
    by_cases hlt : q < n ∧ q < 40
    · obtain ⟨hl1, hl2⟩ := hlt
      have g1 : decide ((q : Int) < (n : Int)) = true := by simp; omega
      have g2 : decide ((q : Int) < 40) = true := by simp; omega
      have g3 : (q : Int) < (n : Int) := by omega
      obtain ⟨E, S, hE, h2⟩ := HQ.out
      have hql : q < l.length := by rw [HI.out.1]; exact hl1
      obtain ⟨b, off, rfl, hb, c0, c1, c2, c3, c4⟩ := (HR.out wr h2.below).at (q := q) hql
      have hti := (HI.out.2 l[q] (List.getElem_mem hql)).t
      generalize l[q] = x at c0 c1 c2 c3 c4 hti
      obtain ⟨kd, ⟨xo, xr, xv⟩, nn⟩ := x
      replace c1 : wr.cell? ⟨b, off + q * 5 + 1, none⟩ = some (.int .u32 (xo : Int)) := c1
      replace c2 : wr.cell? ⟨b, off + q * 5 + 2, none⟩ = some (.int .u64 (xr : Int)) := c2
      replace c3 : wr.cell? ⟨b, off + q * 5 + 3, none⟩ = some (.int .i64 xv) := c3
      clear c0 c4
      obtain ⟨yo, hyo, hyol⟩ := and32_at (xo : Int) (m := 7) (M := 7) rfl (by decide)
      obtain ⟨yr, hyr, hyrl⟩ := and64_at (xr : Int) (m := 65535) (M := 65535) rfl (by decide)
      obtain ⟨yv, hyv, hyvl⟩ := bits_and_at xv (m := 63) (M := 63) rfl (by decide)
      have HY := Lib.hid (⟨hyol, hyrl, hyvl⟩ : _ ∧ _ ∧ _)
      have h3 := h2.on (belowA wr (.cells #[.int .u32 (yo : Int), .int .u64 (yr : Int), .int .i64 (yv : Int)] 31))
      have k3 : Blk (wr.alloc (.cells #[.int .u32 (yo : Int), .int .u64 (yr : Int), .int .i64 (yv : Int)] 31)) wr.heap.size 31 #[.int .u32 (yo : Int), .int .u64 (yr : Int), .int .i64 (yv : Int)] := Blk.new _ _ _
      have H3 := Lib.hid h3
      have K3 := Lib.hid k3
      have HE := Lib.hid hE
      clear hE h2 hb hti hyol hyrl hyvl h3 k3 HQ
      go_upto_region 9 with (fail)
      clear c1 c2 c3 hyo hyr hyv g1 g2 g3
      generalize wr.alloc (.cells #[.int .u32 (yo : Int), .int .u64 (yr : Int), .int .i64 (yv : Int)] 31) = W3 at H3 K3 ⊢
      generalize wr.heap.size = gy at K3 ⊢
      have k0 := K3.out.cell 0
      have k1 := K3.out.cell 1
      have k2 := K3.out.cell 2
      replace k0 : W3.cell? ⟨gy, 0, none⟩ = some (.int .u32 (yo : Int)) := k0
      replace k1 : W3.cell? ⟨gy, 1, none⟩ = some (.int .u64 (yr : Int)) := k1
      replace k2 : W3.cell? ⟨gy, 2, none⟩ = some (.int .i64 (yv : Int)) := k2
      have IN := Lib.hid (⟨by show yo < _; have := HY.out.1; omega, by show yr < _; have := HY.out.2.1; omega, by show I64 (yv : Int); unfold I64; have := HY.out.2.2; omega⟩ : Tup.In ⟨yo, yr, (yv : Int)⟩)
      have SM := Lib.hid (⟨HY.out.2.1, by show 0 ≤ (yv : Int); omega, by show (yv : Int) ≤ 63; have := HY.out.2.2; omega⟩ : (⟨yo, yr, (yv : Int)⟩ : Tup).rate ≤ 65535 ∧ 0 ≤ (⟨yo, yr, (yv : Int)⟩ : Tup).over ∧ (⟨yo, yr, (yv : Int)⟩ : Tup).over ≤ 63)
      have IQ := Lib.hid (IC.out (q : Int) (by omega) (by omega))
      obtain ⟨bo, hbo⟩ : ∃ b, okE E yo = b := ⟨_, rfl⟩
      have HB := Lib.hid hbo
      clear hbo
      go_wp2_with fail
      ((with_reducible refine (lm_tmmbr_at H3.out (o := yo) (r := yr) IN.out IQ.out rfl rfl rfl HB.out).mono ?_); rintro e w4 ⟨rfl, S4, h4⟩)
      have HE4 : Hid (SmallE (putE E ⟨⟨yo, yr, (yv : Int)⟩, untilE (q : Int)⟩)) := Lib.hid (HE.out.put SM.out)
      have H4 := Lib.hid h4
      clear h4 HE k0 k1 k2 K3 H3 HB SM IN IQ
      generalize putE E ⟨⟨yo, yr, (yv : Int)⟩, untilE (q : Int)⟩ = E4 at HE4 H4
      go_wp2_with fail
      ((with_reducible refine (lm_tuples H4.out.lm H4.out.ok H4.out.so).mono ?_); rintro e w5 ⟨v5, rfl, o5, b5⟩)
      obtain ⟨A5, c5, rfl, r5, _⟩ := o5.rt (Ents.T_in H4.out.ok)
      have hm6 : E4.T.length ≤ 6 := by rw [Ents.T_len]; exact H4.out.ok.len
      have HS5 := Lib.hid (fun i j (hj : j < E4.T.length) (hij : i < j) => H4.out.so.at hj hij)
      have HR5 := Lib.hid (fun W (hb : Below w5.heap.size w5 W) => r5.on hb)
      have H5 := Lib.hid (H4.out.on b5)
      obtain ⟨m, hm⟩ : ∃ m, E4.T.length = m := ⟨_, rfl⟩
      rw [hm] at hm6 ⊢
      rw [hm] at HR5
      have HM := Lib.hid hm
      clear H4 o5 b5 r5 hm
      go_wp2_with fail
      go_loopw [7, 51] (fun _ i wr => ∃ k : Nat, k ≤ m ∧ i = .int .i64 (k : Int) ∧ Below w5.heap.size w5 wr) (fun _ i _ => m - (intOf i).toNat)
      case atStart => exact ⟨0, by omega, rfl, Below.refl _ _⟩
      case round =>
        obtain ⟨k, hk, rfl, b8⟩ := hrel
        have HB8 := Lib.hid b8
        clear b8
        by_cases hkl : k < m
        · have s1 : decide ((k : Int) < (m : Int)) = true := by simp; omega
          have s3 : (k : Int) < (m : Int) := by omega
          by_cases hk0 : k = 0
          · subst hk0
            have s2 : decide ((0 : Int) < ((0 : Nat) : Int)) = false := by simp
            go_upto_region 14 with (fail)
            go_quiet (fail)
            go_wp2_with fail
            go_roundw
            case rel => exact ⟨1, by omega, by go_num, HB8.out.trans ((belowDrewN wr _).mono HB8.out.size)⟩
            case measure => simp [intOf]; omega
          · obtain ⟨k0, hk0e⟩ : ∃ k0, k0 + 1 = k := ⟨k - 1, by omega⟩
            have s2 : decide ((0 : Int) < (k : Int)) = true := by simp; omega
            have s2n : decide (0 < k) = true := by simp; omega
            have y8 : IntKind.i64.wrap ((k : Int) - 1) = (k0 : Int) := by rw [IntKind.wrap_i64]; omega
            have hkR : k < E4.T.length := by rw [HM.out]; exact hkl
            have hk0R : k0 < E4.T.length := by omega
            have hk0m : k0 < m := by omega
            have s4 : (k0 : Int) < (m : Int) := by omega
            obtain ⟨b1, off1, hA, hbb, d0, d1, d2⟩ := (HR5.out wr HB8.out).at (q := k) hkR
            obtain ⟨b2, off2, hA', hbb', e0, e1, e2⟩ := (HR5.out wr HB8.out).at (q := k0) hk0R
            clear d1 d2 e1 e2 hbb hbb'
            subst hA
            injection hA' with hA'
            injection hA' with eb eo
            subst eb eo
            have hup := HS5.out k0 k hkR (by omega)
            generalize E4.T[k].owner = ok at d0 hup
            generalize (E4.T[k0]'hk0R).owner = ok0 at e0 hup
            have s5 : decide ((ok : Int) ≤ (ok0 : Int)) = false := by simp; omega
            have s5n : decide (ok ≤ ok0) = false := by simp; omega
            have s7 : ¬ (ok : Int) ≤ (ok0 : Int) := by omega
            have HKE := Lib.hid hk0e
            clear hk0e hup hkR hk0R hk0
            go_upto_region 14 with (fail)
            go_quiet (fail)
            go_wp2_with fail
            go_roundw
            case rel => exact ⟨k + 1, by omega, by go_num, HB8.out.trans ((belowDrewN wr _).mono HB8.out.size)⟩
            case measure => simp [intOf]; omega
        · have s1 : decide ((k : Int) < (m : Int)) = false := by simp; omega
          have hs := lm_set (H5.out.on HB8.out).lm H5.out.ok H5.out.so
          go_wp2_with fail
          ((with_reducible refine hs.mono ?_); rintro e w6 ⟨v6, R, rfl, hR, o6, b6⟩)
          obtain ⟨A6, c6, rfl, r6, _⟩ := o6.rt (unR_in (fun a ha => heldR_in (Ents.T_in H5.out.ok) a (bset_sub hR a ha)))
          have HF := Lib.hid (fun j (hj : j < (R.map unT).length) => HE4.out.set hR hj)
          have HRS := Lib.hid (fun W (hb : Below w6.heap.size w6 W) => r6.on hb)
          have HB6 := Lib.hid (HB8.out.trans (b6.mono HB8.out.size) : Below w5.heap.size w5 w6)
          obtain ⟨mr, hmr⟩ : ∃ m, (R.map unT).length = m := ⟨_, rfl⟩
          rw [hmr]
          rw [hmr] at HRS
          have HMR := Lib.hid hmr
          have hmr6 : mr ≤ 6 := by
            have h1 := bset_len hR
            have h2 : (heldR E4.T).length = E4.T.length := List.length_map ..
            have h3 := HM.out
            rw [← hmr, List.length_map]
            omega
          clear hs hR o6 b6 r6 hmr s1 HB8 hk hkl
          go_wp2_with fail
          go_loopw [9, 10, 12, 74] (fun _ _ _ i wr => ∃ j : Nat, j ≤ mr ∧ i = .int .i64 (j : Int) ∧ Below w6.heap.size w6 wr) (fun _ _ _ i _ => mr - (intOf i).toNat)
          case atStart => exact ⟨0, by omega, rfl, Below.refl _ _⟩
          case round =>
            obtain ⟨j, hj, rfl, b7⟩ := hrel
            have HB7 := Lib.hid b7
            clear b7
            obtain ⟨w7, rfl⟩ : ∃ w7, w7 = wr := ⟨_, rfl⟩
            by_cases hjl : j < mr
            · have s1 : decide ((j : Int) < (mr : Int)) = true := by simp; omega
              have s3 : (j : Int) < (mr : Int) := by omega
              have hjR : j < (R.map unT).length := by rw [HMR.out]; exact hjl
              obtain ⟨b1, off1, rfl, hbb, d0, d1, d2⟩ := (HRS.out w7 HB7.out).at (q := j) hjR
              obtain ⟨i0, hi0, hie⟩ := HF.out j hjR
              generalize (R.map unT)[j] = x at d0 d1 d2 hie
              have HX := Lib.hid (⟨hi0, hie⟩ : ∃ hi : i0 < E4.T.length, E4.T[i0] = x)
              obtain ⟨xo, xr, xv⟩ := x
              replace d0 : w7.cell? ⟨b1, off1 + j * 3, none⟩ = some (.int .u32 (xo : Int)) := d0
              replace d1 : w7.cell? ⟨b1, off1 + j * 3 + 1, none⟩ = some (.int .u64 (xr : Int)) := d1
              replace d2 : w7.cell? ⟨b1, off1 + j * 3 + 2, none⟩ = some (.int .i64 xv) := d2
              have KA : Hid (Blk (w7.alloc (.cells #[.int .u32 (xo : Int), .int .u64 (xr : Int), .int .i64 xv] 31)) w7.heap.size 31 #[.int .u32 (xo : Int), .int .u64 (xr : Int), .int .i64 xv]) := Lib.hid (Blk.new _ _ _)
              have BA := Lib.hid (HB7.out.trans ((belowA w7 (.cells #[.int .u32 (xo : Int), .int .u64 (xr : Int), .int .i64 xv] 31)).mono HB7.out.size))
              clear hbb hi0 hie hjR
              go_upto_region 20 with (fail)
              clear d0 d1 d2 s1 s3
              generalize w7.alloc (.cells #[.int .u32 (xo : Int), .int .u64 (xr : Int), .int .i64 xv] 31) = wa at KA BA ⊢
              generalize w7.heap.size = gs at KA ⊢
              go_wp2_with fail
              go_loopw [10, 12, 80] (fun v _ i wr => ∃ (k : Nat) (bo : Bool), k ≤ m ∧ i = .int .i64 (k : Int) ∧ v = .bool bo ∧ Hid (i0 < k → bo = true) ∧ Below wa.heap.size wa wr) (fun _ _ i _ => m - (intOf i).toNat)
              case atStart => exact ⟨0, false, by omega, rfl, rfl, Lib.hid (fun h => absurd h (by omega)), Below.refl _ _⟩
              case round =>
                obtain ⟨k, bo, hk, rfl, rfl, HBO, b8⟩ := hrel
                have HB8 := Lib.hid b8
                clear b8
                obtain ⟨w8, rfl⟩ : ∃ w8, w8 = wr := ⟨_, rfl⟩
                by_cases hkl : k < m
                · have s1 : decide ((k : Int) < (m : Int)) = true := by simp; omega
                  have s3 : (k : Int) < (m : Int) := by omega
                  have hkR : k < E4.T.length := by rw [HM.out]; exact hkl
                  have HW8 : Hid (Below w5.heap.size w5 w8) := Lib.hid ((HB6.out.trans (BA.out.mono HB6.out.size)).trans (HB8.out.mono (HB6.out.trans (BA.out.mono HB6.out.size)).size))
                  obtain ⟨b1, off1, rfl, hbb, d0, d1, d2⟩ := (HR5.out w8 HW8.out).at (q := k) hkR
                  have HBE := Lib.hid (show E4.T[k] ≠ ⟨xo, xr, xv⟩ → bo = false → ¬ i0 < k + 1 from fun hne h2 h1 => by
                    rcases Nat.lt_or_ge i0 k with h3 | h3
                    · have := HBO.out h3
                      rw [h2] at this
                      cases this
                    · have h4 : i0 = k := by omega
                      subst h4
                      obtain ⟨_, h5⟩ := HX.out
                      exact hne h5)
                  generalize E4.T[k] = y at d0 d1 d2 HBE
                  obtain ⟨yo, yr, yv⟩ := y
                  replace d0 : w8.cell? ⟨b1, off1 + k * 3, none⟩ = some (.int .u32 (yo : Int)) := d0
                  replace d1 : w8.cell? ⟨b1, off1 + k * 3 + 1, none⟩ = some (.int .u64 (yr : Int)) := d1
                  replace d2 : w8.cell? ⟨b1, off1 + k * 3 + 2, none⟩ = some (.int .i64 yv) := d2
                  have KB : Hid (Blk (w8.alloc (.cells #[.int .u32 (yo : Int), .int .u64 (yr : Int), .int .i64 yv] 31)) w8.heap.size 31 #[.int .u32 (yo : Int), .int .u64 (yr : Int), .int .i64 yv]) := Lib.hid (Blk.new _ _ _)
                  have BB := Lib.hid (HB8.out.trans ((belowA w8 (.cells #[.int .u32 (yo : Int), .int .u64 (yr : Int), .int .i64 yv] 31)).mono HB8.out.size))
                  clear hbb
                  go_upto_region 24 with (fail)
                  clear d0 d1 d2 s1 s3
                  generalize w8.alloc (.cells #[.int .u32 (yo : Int), .int .u64 (yr : Int), .int .i64 yv] 31) = wb at KB BB ⊢
                  generalize w8.heap.size = gb at KB ⊢
                  have KA2 := (BB.out.block gs KA.out.lt).trans KA.out
                  have x0 : wb.cell? ⟨gs, 0, none⟩ = some (.int .u32 (xo : Int)) := Blk.cell KA2 0
                  have x1 : wb.cell? ⟨gs, 1, none⟩ = some (.int .u64 (xr : Int)) := Blk.cell KA2 1
                  have x2 : wb.cell? ⟨gs, 2, none⟩ = some (.int .i64 xv) := Blk.cell KA2 2
                  have y0 : wb.cell? ⟨gb, 0, none⟩ = some (.int .u32 (yo : Int)) := KB.out.cell 0
                  have y1 : wb.cell? ⟨gb, 1, none⟩ = some (.int .u64 (yr : Int)) := KB.out.cell 1
                  have y2 : wb.cell? ⟨gb, 2, none⟩ = some (.int .i64 yv) := KB.out.cell 2
                  clear KA2
                  cases bo with
                  | true =>
                    go_wp2_with fail
                    go_roundw
                    case rel => exact ⟨k + 1, true, by omega, by go_num, rfl, Lib.hid (fun _ => rfl), BB.out⟩
                    case measure => simp [intOf]; omega
                  | false =>
                    by_cases hxy : (⟨yo, yr, yv⟩ : Tup) = ⟨xo, xr, xv⟩
                    · injection hxy with e0 e1 e2
                      subst e0 e1 e2
                      go_wp2_with fail
                      go_roundw
                      case rel => exact ⟨k + 1, true, by omega, by go_num, rfl, Lib.hid (fun _ => rfl), BB.out⟩
                      case measure => simp [intOf]; omega
                    · have HNE := Lib.hid (HBE.out hxy rfl)
                      clear hxy
                      go_wp2_with fail
                      all_goals
                        go_roundw
                        case rel => exact ⟨k + 1, _, by omega, by go_num, rfl, Lib.hid (fun h => absurd h HNE.out), BB.out⟩
                        case measure => simp [intOf]; omega
                · have s1 : decide ((k : Int) < (m : Int)) = false := by simp; omega
                  have hbo : bo = true := by
                    obtain ⟨h5, _⟩ := HX.out
                    exact HBO.out (by have := HM.out; omega)
                  subst hbo
                  have HB9 := Lib.hid (BA.out.trans (HB8.out.mono BA.out.size))
                  go_wp2_with fail
                  go_roundw
                  case rel => exact ⟨j + 1, by omega, by go_num, HB9.out⟩
                  case measure => simp [intOf]; omega
            · have s1 : decide ((j : Int) < (mr : Int)) = false := by simp; omega
              have s2 : decide ((6 : Int) < (m : Int)) = false := by simp; omega
              have H9 := Lib.hid (H5.out.on (HB6.out.trans (HB7.out.mono HB6.out.size)))
              go_wp2_with fail
              go_roundw
              case rel => exact ⟨q + 1, by omega, by omega, by go_num, Lib.hid ⟨E4, S4, HE4.out, H9.out⟩⟩
              case measure => simp [intOf]; omega
    · have HB := Lib.hid (show Below w.heap.size w wr from by obtain ⟨_, _, _, h⟩ := HQ.out; exact h.below)
      by_cases hl1 : q < n
      · have g1 : decide ((q : Int) < (n : Int)) = true := by simp; omega
        have g2 : decide ((q : Int) < 40) = false := by simp; omega
        clear hlt HQ
        go_wp2_with fail
        ((with_reducible refine (known14_any _).mono ?_); rintro e w2 ⟨rfl, b2⟩)
        have H2 := Lib.hid (HB.out.trans (b2.mono HB.out.size))
        clear b2
        go_wp2_with fail
        go_ret
        exact ⟨rfl, H2.out⟩
      · have g1 : decide ((q : Int) < (n : Int)) = false := by simp; omega
        clear hlt HQ
        go_wp2_with fail
        ((with_reducible refine (known14_any _).mono ?_); rintro e w2 ⟨rfl, b2⟩)
        have H2 := Lib.hid (HB.out.trans (b2.mono HB.out.size))
        clear b2
        go_wp2_with fail
        go_ret
        exact ⟨rfl, H2.out⟩
end Go.Proofs.Ytfijlgkgbbemnaa
