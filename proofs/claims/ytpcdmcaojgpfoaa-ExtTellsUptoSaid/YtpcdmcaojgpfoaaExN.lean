/- Contracts: limelightref1.Pad, limelightref3.Elems, where what is answered is a row that the call owns. -/
import Derived.Test.YtpcdmcaojgpfoaaCR3Elems
import Derived.Test.YtpcdmcaojgpfoaaCRefPut
namespace Go.Proofs.Ytpcdmcaojgpfoaa.RP
open Go.RowKit
set_option linter.unusedVariables false
set_option linter.unusedSimpArgs false
set_option maxRecDepth 20000

theorem owns_base {w : World} {b b' size n : Nat} {e : TypeId} {v : Value} {xs : List Value} (h : w.ownsRow b e size v n xs) (hb : b' ≤ b) : w.ownsRow b' e size v n xs := by
  refine ⟨h.1, ?_⟩
  rcases h.2 with h2 | ⟨g, cap, cur, hv, hg, rest⟩
  · exact .inl h2
  · exact .inr ⟨g, cap, cur, hv, Nat.le_trans hb hg, rest⟩
def ElemsOwn (prof : Nat) (E : List El) (w : World) (e : Ending) (w' : World) : Prop :=
  ∃ v, e = .returned (.tuple #[v, .int .i64 (elemsErr prof E)]) ∧ Own8 w' w.heap.size v (elemsB prof E) ∧ Below w.heap.size w w'
theorem ElemsOwn.no {prof : Nat} {E : List El} {w w' : World} {k : Int} (h : elemsErr prof E = k) (hk : k ≠ 0) (hb : Below w.heap.size w w') : ElemsOwn prof E w (.returned (.tuple #[.slice none 0 0, .int .i64 k])) w' := by
  have e : elemsB prof E = [] := by
    unfold elemsB
    rw [if_neg (by rw [h]; exact hk)]
  refine ⟨.slice none 0 0, by rw [h], ?_, hb⟩
  rw [e]
  exact Own8_nil _ _
theorem ref_pad_own (A : Option Addr) (n c : Nat) (l : List UInt8) (w : World) (h : R8 w w.heap.size A n c l) (hn : n ≤ 140737488351232) (t : Int) :
    Calls Try.prog 33 #[.slice A n c, .int .i64 t] w (OwnOut w (l ++ List.replicate (padN n t) 0)) := by
  have hl := h.1
  subst hl
  have hbb : ([] : List UInt8).length + l.length ≤ 140737488355328 := by simp; omega
  by_cases h1 : 1 ≤ t
  · by_cases h2 : t ≤ 64
    · obtain ⟨k, rfl⟩ := Int.eq_ofNat_of_zero_le (show 0 ≤ t by omega)
      have g1 : decide ((1 : Int) ≤ (k : Int)) = true := by simp; omega
      have g2 : decide ((k : Int) ≤ 64) = true := by simp; omega
      have HP := Lib.hid (pad_lt l.length k · (by omega) (by omega))
      have HE := Lib.hid (pad_eq l.length k (by omega) (by omega))
      have hp64 := padN_lt l.length k
      generalize padN l.length k = p at HP HE hp64 ⊢
      go_enter Try.func33, Try.ntmps33
      go_wp2_with (at_builtin; with_reducible refine wpList_append8 rfl (.tmp 6) (.tmp 7) rfl rfl w.heap.size _ [] rfl (Own8.empty _ _ (Nat.le_refl _)) w.heap.size A l.length c l rfl (h.alloc (Nat.le_refl _) _) hbb (by simp) ?_; intro v1 w1 ha1)
      have hb1 := ha1.below ((Below.refl _ _).alloc (Nat.le_refl _) _) (by simp) (Own8.empty _ _ (Nat.le_refl _)) (Nat.le_refl _)
      have ho1 := ha1.1
      clear ha1 h
      go_loopw [5] (fun v wr => ∃ q : Nat, q ≤ p ∧ Own8 wr w.heap.size v (l ++ List.replicate q 0) ∧ Below w.heap.size w wr) (fun v _ => p - (lenOf v - l.length))
      case atStart => exact ⟨0, Nat.zero_le _, by simpa using ho1, hb1⟩
      case round =>
        obtain ⟨q, hq, hor, hbr⟩ := hrel
        obtain ⟨A2, c2, hv2, hr2⟩ := hor.r8
        rw [show (l ++ List.replicate q (0 : UInt8)).length = l.length + q by simp] at hv2
        subst hv2
        have hsz := hbr.size
        by_cases hlt : q < p
        · have hlb := Lib.hid (show (l ++ List.replicate q (0 : UInt8)).length + 1 ≤ 140737488355328 by simp; omega)
          have hrow := Lib.hid (show (l ++ List.replicate q (0 : UInt8)) ++ [0] = l ++ List.replicate (q + 1) 0 by
            rw [List.append_assoc, ← List.replicate_succ'])
          have g3 : (((l.length : Int) + (q : Int)) % (k : Int) != 0) = true := by
            have := HP.out q hlt
            rw [imod, bne_iff_ne]
            omega
          go_wp2_with (at_builtin; with_reducible refine wpList_append8 rfl (.tmp 22) (.tmp 23) rfl rfl w.heap.size _ _ rfl (hor.alloc _) (wr.heap.size + 1) _ 1 1 [0] rfl (one_r8 _ _ _ rfl) hlb.out (le_alloc hsz _) ?_; intro v2 w2 ha2)
          have hb2 := ha2.below (hbr.alloc hsz _) (le_alloc hsz _) (hor.alloc _) (Nat.le_refl _)
          have ho2 := ha2.1
          rw [hrow.out] at ho2
          have hL := Lib.hid (show lenOf v2 = l.length + (q + 1) by
            obtain ⟨A3, c3, hv3, hr3⟩ := ho2.r8
            rw [hv3]; simp [lenOf])
          go_roundw
          case rel => exact ⟨q + 1, by omega, ho2, hb2⟩
          case measure => rw [hL.out]; simp [lenOf]; omega
        · obtain rfl : q = p := by omega
          have g3 : (((l.length : Int) + (q : Int)) % (k : Int) != 0) = false := by
            have := HE.out
            rw [imod, this]
            rfl
          go_wp2
          go_ret
          exact ⟨_, rfl, hor, hbr⟩
    · have hp : padN l.length t = 0 := by simp [padN]; omega
      rw [hp, List.replicate_zero, List.append_nil]
      have g1 : decide ((1 : Int) ≤ t) = true := by simp; omega
      have g2 : decide (t ≤ 64) = false := by simp; omega
      clear hp
      go_enter Try.func33, Try.ntmps33
      go_wp2_with (at_builtin; with_reducible refine wpList_append8 rfl (.tmp 6) (.tmp 7) rfl rfl w.heap.size _ [] rfl (Own8.empty _ _ (Nat.le_refl _)) w.heap.size A l.length c l rfl (h.alloc (Nat.le_refl _) _) hbb (by simp) ?_; intro v1 w1 ha1)
      have hb1 := ha1.below ((Below.refl _ _).alloc (Nat.le_refl _) _) (by simp) (Own8.empty _ _ (Nat.le_refl _)) (Nat.le_refl _)
      have ho1 := ha1.1
      clear ha1 h
      go_loopw [5] (fun v wr => v = v1 ∧ wr = w1) (fun _ _ => 0)
      case atStart => exact ⟨rfl, rfl⟩
      case round =>
        obtain ⟨rfl, rfl⟩ := hrel
        go_wp2
        go_ret
        exact ⟨_, rfl, by simpa using ho1, hb1⟩
  · have hp : padN l.length t = 0 := by simp [padN]; omega
    rw [hp, List.replicate_zero, List.append_nil]
    have g1 : decide ((1 : Int) ≤ t) = false := by simp; omega
    clear hp
    go_enter Try.func33, Try.ntmps33
    go_wp2_with (at_builtin; with_reducible refine wpList_append8 rfl (.tmp 6) (.tmp 7) rfl rfl w.heap.size _ [] rfl (Own8.empty _ _ (Nat.le_refl _)) w.heap.size A l.length c l rfl (h.alloc (Nat.le_refl _) _) hbb (by simp) ?_; intro v1 w1 ha1)
    have hb1 := ha1.below ((Below.refl _ _).alloc (Nat.le_refl _) _) (by simp) (Own8.empty _ _ (Nat.le_refl _)) (Nat.le_refl _)
    have ho1 := ha1.1
    clear ha1 h
    go_loopw [5] (fun v wr => v = v1 ∧ wr = w1) (fun _ _ => 0)
    case atStart => exact ⟨rfl, rfl⟩
    case round =>
      obtain ⟨rfl, rfl⟩ := hrel
      go_wp2
      go_ret
      exact ⟨_, rfl, by simpa using ho1, hb1⟩
set_option maxHeartbeats 4000000 in
theorem ref_elems_own (prof : Nat) (A : Option Addr) (n c : Nat) (E : List El) (w : World) (hp : prof < 65536) (h : RE w w.heap.size A n c E) (hn : n ≤ 140737488355328) (hdl : ∀ e ∈ E, e.d.length ≤ 140737488355328) :
    Calls Try.prog 21 #[.int .u16 (prof : Int), .slice A n c] w (ElemsOwn prof E w) := by
  have hEn := Lib.hid h.1
  go_enter Try.func21, Try.ntmps21
  by_cases hp1 : prof ≠ 48862 ∧ prof ≠ 4096
  · have g1 : ((prof : Int) != 48862) = true := by simp; omega
    have g2 : ((prof : Int) != 4096) = true := by simp; omega
    have he : elemsErr prof E = 1 := if_pos hp1
    have hno := ElemsOwn.no he (by omega) (Below.refl w.heap.size w)
    clear hp1 he
    go_wp2_with fail
    go_ret2
    exact hno
  have hpp : prof = 48862 ∨ prof = 4096 := by omega
  by_cases h8 : 8 < n
  · have he : elemsErr prof E = 3 := by
      unfold elemsErr
      rw [if_neg (by omega), if_pos (by rw [hEn.out]; exact h8)]
    have hno := ElemsOwn.no he (by omega) (Below.refl w.heap.size w)
    have g8 : (8 : Int) < (n : Int) := by omega
    clear he
    rcases hpp with rfl | rfl
    all_goals
      go_wp2_with fail
      go_ret2
      exact hno
  have g8 : ¬ (8 : Int) < (n : Int) := by omega
  rcases hpp with rfl | rfl
  · have ho : isOne 48862 = true := by decide
    go_wp2_with fail
    go_loopw [6, 8, 9, 21] (fun v _ _ i wr => ∃ q : Nat, q ≤ n ∧ i = .int .i64 (q : Int) ∧ Own8 wr w.heap.size v (elBs true (E.take q)) ∧ (∀ e ∈ E.take q, badE true e = false) ∧ Below w.heap.size w wr) (fun _ _ _ i _ => n - (intOf i).toNat)
    case atStart => exact ⟨0, by omega, rfl, by simpa [elBs] using Own8_nil _ _, by simp, Below.refl _ _⟩
    case round =>
      obtain ⟨q, hq, rfl, hor, hgood, hbr⟩ := hrel
      by_cases hlt : q < n
      · have g3 : decide ((q : Int) < (n : Int)) = true := by simp; omega
        have hqE : q < E.length := by rw [hEn.out]; exact hlt
        have hEm : E[q] ∈ E := List.getElem_mem hqE
        have hEl := h.2.2.1 _ hEm
        have hdq := hdl _ hEm
        obtain ⟨b, off, rfl, hbl, hcell⟩ := h.2.2.2 (by omega)
        obtain ⟨k1, k2⟩ := cellsE_get E q hqE
        have hstep := Lib.hid (elBs_step true E q hqE)
        have htake := Lib.hid (show E.take (q + 1) = E.take q ++ [E[q]] by rw [List.take_add_one, List.getElem?_eq_getElem hqE]; rfl)
        have hbad := fun (hb : badE true E[q] = true) => err_bad (prof := 48862) (.inl rfl) (by rw [hEn.out]; omega) hqE (by rw [ho]; exact hb)
        have c0 : wr.cell? ⟨b, off + q * 2, none⟩ = some (.int .i64 E[q].id) := by
          rw [Nat.mul_comm]
          exact (hbr.cell (p := ⟨b, off + 2 * q, none⟩) hbl).trans (hcell _ _ k1)
        have c1 : wr.cell? ⟨b, off + q * 2 + 1, none⟩ = some (.slice E[q].A E[q].d.length E[q].c) := by
          rw [Nat.mul_comm]
          exact (hbr.cell (p := ⟨b, off + (2 * q + 1), none⟩) hbl).trans (hcell _ _ k2)
        have hElr := hEl.2.below hbr
        have hEbl := And.intro hgood (And.intro hstep htake)
        have hsz := hbr.size
        clear hcell k1 k2 hgood hstep htake hdl
        revert hEl hdq hbad c0 c1 hElr hEbl hEm
        generalize E[q] = X
        obtain ⟨id, XA, Xc, Xd⟩ := X
        intro hEm hEl hdq hbad c0 c1 hElr hEbl
        obtain ⟨hgood, hstep, htake⟩ := hEbl
        have hid := hEl.1
        simp only [I64] at hid hdq c0 c1 hElr
        have hlow := h.2.2.1
        have hElw := hEl.2
        simp only at hElw
        clear hEl hEm hlow
        have hbW := hbr.alloc hsz (.cells #[.int .i64 id, .slice XA Xd.length Xc] 51)
        by_cases t0 : id < 1
        · have u0 : (id : Int) < 1 := by omega
          have hno := ElemsOwn.no (hbad (by simp [badE, t0])) (by omega) hbW
          clear hbad
          go_wp2_with fail
          go_ret2
          exact hno
        have u0 : ¬ (id : Int) < 1 := by omega
        by_cases t1 : 14 < id
        · have u1 : (14 : Int) < id := by omega
          have hno := ElemsOwn.no (hbad (by simp [badE, t1])) (by omega) hbW
          clear hbad
          go_wp2_with fail
          go_ret2
          exact hno
        have u1 : ¬ (14 : Int) < id := by omega
        by_cases t2 : Xd.length < 1
        · have u2 : (Xd.length : Int) < 1 := by omega
          have hno := ElemsOwn.no (hbad (by simp [badE, t2])) (by omega) hbW
          clear hbad
          go_wp2_with fail
          go_ret2
          exact hno
        have u2 : ¬ (Xd.length : Int) < 1 := by omega
        by_cases t3 : 16 < Xd.length
        · have u3 : (16 : Int) < (Xd.length : Int) := by omega
          have hno := ElemsOwn.no (hbad (by simp [badE, t3])) (by omega) hbW
          clear hbad
          go_wp2_with fail
          go_ret2
          exact hno
        have u3 : ¬ (16 : Int) < (Xd.length : Int) := by omega
        have hok : badE true ⟨id, XA, Xc, Xd⟩ = false := by
          have q1 : ¬ 255 < id := by omega
          have q2 : ¬ 255 < Xd.length := by omega
          simp [badE, t0, t1, t2, t3, q1, q2]
        clear hbad
        have hlq := elBs_len true (E.take q) hgood
        rw [List.length_take] at hlq
        go_upto_region 13 with (fail)
        have hblk : (wr.alloc (.cells #[.int .i64 id, .slice XA Xd.length Xc] 51)).heap[wr.heap.size]? = some (.cells #[.int .i64 id, .slice XA Xd.length Xc] 51 (0, 0)) := Blk.new _ _ _
        have horW := hor.alloc (.cells #[.int .i64 id, .slice XA Xd.length Xc] 51)
        have hvb : ∀ b, Value.ownBlock u6 = some b → b < wr.heap.size := fun b hb => (World.ownsRow.lt hor b hb).2
        clear hor hbr hElr c0 c1
        revert hblk horW hbW
        generalize wr.alloc (.cells #[.int .i64 id, .slice XA Xd.length Xc] 51) = W
        revert hvb hsz
        generalize wr.heap.size = L
        intro hsz hvb hbW hblk horW
        have hsW := hbW.size
        have hLW : L < W.heap.size := (Array.getElem?_eq_some_iff.1 hblk).1
        have c0 : W.cell? ⟨L, 0, none⟩ = some (.int .i64 id) := by simp [World.cell?, hblk]
        have c1 : W.cell? ⟨L, 1, none⟩ = some (.slice XA Xd.length Xc) := by simp [World.cell?, hblk]
        have hx8 := Lib.hid (show (16 * id + (Xd.length : Int) - 1) = (((UInt8.ofNat (16 * id.toNat + Xd.length - 1)).toNat : Nat) : Int) by simp; omega)
        have hl1 : (elBs true (E.take q)).length + 1 ≤ 140737488355328 := by omega
        have hl2 : (elBs true (E.take q) ++ [UInt8.ofNat (16 * id.toNat + Xd.length - 1)]).length + Xd.length ≤ 140737488355328 := by rw [List.length_append]; simp only [List.length_cons, List.length_nil]; omega
        go_upto_region 15 with (at_builtin; ((with_reducible refine wpList_append8 rfl (.tmp 64) (.tmp 72) rfl rfl w.heap.size u6 (elBs true (E.take q)) (by with_unfolding_all rfl) (by with_unfolding_all exact horW.alloc _) (W.heap.size + 1) (some ⟨W.heap.size, 0, none⟩) 1 1 [UInt8.ofNat (16 * id.toNat + Xd.length - 1)] (by with_unfolding_all rfl) (by with_unfolding_all exact (one_r8 W _ _ hx8.out)) hl1 (le_alloc hsW _) ?_); intro v2 w2 ha2))
        have hb2 := ha2.below (hbW.alloc hsW _) (le_alloc hsW _) (horW.alloc _) (Nat.le_refl _)
        have hblk2 : w2.heap[L]? = some (.cells #[.int .i64 id, .slice XA Xd.length Xc] 51 (0, 0)) := by
          rw [ha2.2.1.block L (by simp; omega) (fun e' => by have := hvb L e'.symm; omega)]
          exact (((Below.refl W.heap.size W).alloc (Nat.le_refl _) _).block L hLW).trans hblk
        have d1 : w2.cell? ⟨L, 1, none⟩ = some (.slice XA Xd.length Xc) := by simp [World.cell?, hblk2]
        have hR2 := hElw.below hb2
        have ho2 := ha2.1
        have hs2 := hb2.size
        clear c0 c1 hblk hblk2 ha2 horW hbW hElw
        go_wp2_with (at_builtin; ((with_reducible refine wpList_append8 rfl (.tmp 82) (.tmp 84) rfl rfl w.heap.size v2 (elBs true (E.take q) ++ [UInt8.ofNat (16 * id.toNat + Xd.length - 1)]) (by with_unfolding_all rfl) ho2 w.heap.size XA Xd.length Xc Xd (by with_unfolding_all rfl) hR2 hl2 hs2 ?_); intro v3 w3 ha3))
        have hb3 := ha3.below hb2 hs2 ho2 (Nat.le_refl _)
        go_roundw
        case rel =>
          refine ⟨q + 1, by omega, by go_num, ?_, ?_, hb3⟩
          · rw [hstep.out]
            have h9 := ha3.1
            rw [List.append_assoc] at h9
            exact h9
          · rw [htake.out]
            intro e he
            rcases List.mem_append.1 he with he | he
            · exact hgood e he
            · rw [List.mem_singleton.1 he]
              exact hok
        case measure => simp [intOf]; omega
      · have g3 : decide ((q : Int) < (n : Int)) = false := by simp; omega
        have hqn : q = n := by omega
        have hall : E.take q = E := List.take_of_length_le (by rw [hEn.out]; omega)
        rw [hall] at hor hgood
        have hlb := elBs_len true E hgood
        rw [hEn.out] at hlb
        have he0 := err_ok (prof := 48862) (.inl rfl) (by rw [hEn.out]; omega) (by rw [ho]; exact hgood)
        have heB : elemsB 48862 E = padL (elBs true E) 4 := by
          unfold elemsB
          rw [if_pos he0, ho]
        obtain ⟨A1, k1, rfl, hR⟩ := hor.r8
        have hfin := fun v w' (hr : Own8 w' w.heap.size v (padL (elBs true E) 4)) (hb : Below w.heap.size w w') => (⟨v, by rw [he0], by rw [heB]; exact hr, hb⟩ : ElemsOwn 48862 E w (.returned (.tuple #[v, .int .i64 0])) w')
        clear he0 heB hall
        subst hqn
        go_wp2_with fail
        refine (ref_pad_own _ _ _ _ _ hR (by omega) 4).mono ?_
        rintro e w2 ⟨v2, rfl, hO2, hb2⟩
        have hf := hfin _ _ (owns_base hO2 hbr.size) (hbr.trans (hb2.mono hbr.size))
        go_wp2_with fail
        go_ret2
        exact hf
  · have ho : isOne 4096 = false := by decide
    go_wp2_with fail
    go_loopw [6, 8, 9, 21] (fun v _ _ i wr => ∃ q : Nat, q ≤ n ∧ i = .int .i64 (q : Int) ∧ Own8 wr w.heap.size v (elBs false (E.take q)) ∧ (∀ e ∈ E.take q, badE false e = false) ∧ Below w.heap.size w wr) (fun _ _ _ i _ => n - (intOf i).toNat)
    case atStart => exact ⟨0, by omega, rfl, by simpa [elBs] using Own8_nil _ _, by simp, Below.refl _ _⟩
    case round =>
      obtain ⟨q, hq, rfl, hor, hgood, hbr⟩ := hrel
      by_cases hlt : q < n
      · have g3 : decide ((q : Int) < (n : Int)) = true := by simp; omega
        have hqE : q < E.length := by rw [hEn.out]; exact hlt
        have hEm : E[q] ∈ E := List.getElem_mem hqE
        have hEl := h.2.2.1 _ hEm
        have hdq := hdl _ hEm
        obtain ⟨b, off, rfl, hbl, hcell⟩ := h.2.2.2 (by omega)
        obtain ⟨k1, k2⟩ := cellsE_get E q hqE
        have hstep := Lib.hid (elBs_step false E q hqE)
        have htake := Lib.hid (show E.take (q + 1) = E.take q ++ [E[q]] by rw [List.take_add_one, List.getElem?_eq_getElem hqE]; rfl)
        have hbad := fun (hb : badE false E[q] = true) => err_bad (prof := 4096) (.inr rfl) (by rw [hEn.out]; omega) hqE (by rw [ho]; exact hb)
        have c0 : wr.cell? ⟨b, off + q * 2, none⟩ = some (.int .i64 E[q].id) := by
          rw [Nat.mul_comm]
          exact (hbr.cell (p := ⟨b, off + 2 * q, none⟩) hbl).trans (hcell _ _ k1)
        have c1 : wr.cell? ⟨b, off + q * 2 + 1, none⟩ = some (.slice E[q].A E[q].d.length E[q].c) := by
          rw [Nat.mul_comm]
          exact (hbr.cell (p := ⟨b, off + (2 * q + 1), none⟩) hbl).trans (hcell _ _ k2)
        have hElr := hEl.2.below hbr
        have hEbl := And.intro hgood (And.intro hstep htake)
        have hsz := hbr.size
        clear hcell k1 k2 hgood hstep htake hdl
        revert hEl hdq hbad c0 c1 hElr hEbl hEm
        generalize E[q] = X
        obtain ⟨id, XA, Xc, Xd⟩ := X
        intro hEm hEl hdq hbad c0 c1 hElr hEbl
        obtain ⟨hgood, hstep, htake⟩ := hEbl
        have hid := hEl.1
        simp only [I64] at hid hdq c0 c1 hElr
        have hlow := h.2.2.1
        have hElw := hEl.2
        simp only at hElw
        clear hEl hEm hlow
        have hbW := hbr.alloc hsz (.cells #[.int .i64 id, .slice XA Xd.length Xc] 51)
        by_cases t0 : id < 1
        · have u0 : (id : Int) < 1 := by omega
          have hno := ElemsOwn.no (hbad (by simp [badE, t0])) (by omega) hbW
          clear hbad
          go_wp2_with fail
          go_ret2
          exact hno
        have u0 : ¬ (id : Int) < 1 := by omega
        by_cases t1 : 255 < id
        · have u1 : (255 : Int) < id := by omega
          have hno := ElemsOwn.no (hbad (by simp [badE, t1])) (by omega) hbW
          clear hbad
          go_wp2_with fail
          go_ret2
          exact hno
        have u1 : ¬ (255 : Int) < id := by omega
        by_cases t2 : 255 < Xd.length
        · have u2 : (255 : Int) < (Xd.length : Int) := by omega
          have hno := ElemsOwn.no (hbad (by simp [badE, t2])) (by omega) hbW
          clear hbad
          go_wp2_with fail
          go_ret2
          exact hno
        have u2 : ¬ (255 : Int) < (Xd.length : Int) := by omega
        have hok : badE false ⟨id, XA, Xc, Xd⟩ = false := by
          have q1 : ¬ 255 < id := by omega
          have q2 : ¬ 255 < Xd.length := by omega
          simp [badE, t0, t1, t2, q1, q2]
        clear hbad
        have hlq := elBs_len false (E.take q) hgood
        rw [List.length_take] at hlq
        go_upto_region 14 with (fail)
        have hblk : (wr.alloc (.cells #[.int .i64 id, .slice XA Xd.length Xc] 51)).heap[wr.heap.size]? = some (.cells #[.int .i64 id, .slice XA Xd.length Xc] 51 (0, 0)) := Blk.new _ _ _
        have horW := hor.alloc (.cells #[.int .i64 id, .slice XA Xd.length Xc] 51)
        have hvb : ∀ b, Value.ownBlock u6 = some b → b < wr.heap.size := fun b hb => (World.ownsRow.lt hor b hb).2
        clear hor hbr hElr c0 c1
        revert hblk horW hbW
        generalize wr.alloc (.cells #[.int .i64 id, .slice XA Xd.length Xc] 51) = W
        revert hvb hsz
        generalize wr.heap.size = L
        intro hsz hvb hbW hblk horW
        have hsW := hbW.size
        have hLW : L < W.heap.size := (Array.getElem?_eq_some_iff.1 hblk).1
        have c0 : W.cell? ⟨L, 0, none⟩ = some (.int .i64 id) := by simp [World.cell?, hblk]
        have c1 : W.cell? ⟨L, 1, none⟩ = some (.slice XA Xd.length Xc) := by simp [World.cell?, hblk]
        have hx8 := Lib.hid (show id = (((UInt8.ofNat id.toNat).toNat : Nat) : Int) by simp; omega)
        have hy8 := Lib.hid (show (Xd.length : Int) = (((UInt8.ofNat Xd.length).toNat : Nat) : Int) by simp; omega)
        have hl1 : (elBs false (E.take q)).length + 2 ≤ 140737488355328 := by omega
        have hl2 : (elBs false (E.take q) ++ [UInt8.ofNat id.toNat, UInt8.ofNat Xd.length]).length + Xd.length ≤ 140737488355328 := by rw [List.length_append]; simp only [List.length_cons, List.length_nil]; omega
        go_upto_region 15 with (at_builtin; ((with_reducible refine wpList_append8 rfl (.tmp 74) (.tmp 80) rfl rfl w.heap.size u6 (elBs false (E.take q)) (by with_unfolding_all rfl) (by with_unfolding_all exact horW.alloc _) (W.heap.size + 1) (some ⟨W.heap.size, 0, none⟩) 2 2 [UInt8.ofNat id.toNat, UInt8.ofNat Xd.length] (by with_unfolding_all rfl) (by with_unfolding_all exact (two_r8 W _ _ _ _ hx8.out hy8.out)) hl1 (le_alloc hsW _) ?_); intro v2 w2 ha2))
        have hb2 := ha2.below (hbW.alloc hsW _) (le_alloc hsW _) (horW.alloc _) (Nat.le_refl _)
        have hblk2 : w2.heap[L]? = some (.cells #[.int .i64 id, .slice XA Xd.length Xc] 51 (0, 0)) := by
          rw [ha2.2.1.block L (by simp; omega) (fun e' => by have := hvb L e'.symm; omega)]
          exact (((Below.refl W.heap.size W).alloc (Nat.le_refl _) _).block L hLW).trans hblk
        have d1 : w2.cell? ⟨L, 1, none⟩ = some (.slice XA Xd.length Xc) := by simp [World.cell?, hblk2]
        have hR2 := hElw.below hb2
        have ho2 := ha2.1
        have hs2 := hb2.size
        clear c0 c1 hblk hblk2 ha2 horW hbW hElw
        go_wp2_with (at_builtin; ((with_reducible refine wpList_append8 rfl (.tmp 82) (.tmp 84) rfl rfl w.heap.size v2 (elBs false (E.take q) ++ [UInt8.ofNat id.toNat, UInt8.ofNat Xd.length]) (by with_unfolding_all rfl) ho2 w.heap.size XA Xd.length Xc Xd (by with_unfolding_all rfl) hR2 hl2 hs2 ?_); intro v3 w3 ha3))
        have hb3 := ha3.below hb2 hs2 ho2 (Nat.le_refl _)
        go_roundw
        case rel =>
          refine ⟨q + 1, by omega, by go_num, ?_, ?_, hb3⟩
          · rw [hstep.out]
            have h9 := ha3.1
            rw [List.append_assoc] at h9
            exact h9
          · rw [htake.out]
            intro e he
            rcases List.mem_append.1 he with he | he
            · exact hgood e he
            · rw [List.mem_singleton.1 he]
              exact hok
        case measure => simp [intOf]; omega
      · have g3 : decide ((q : Int) < (n : Int)) = false := by simp; omega
        have hqn : q = n := by omega
        have hall : E.take q = E := List.take_of_length_le (by rw [hEn.out]; omega)
        rw [hall] at hor hgood
        have hlb := elBs_len false E hgood
        rw [hEn.out] at hlb
        have he0 := err_ok (prof := 4096) (.inr rfl) (by rw [hEn.out]; omega) (by rw [ho]; exact hgood)
        have heB : elemsB 4096 E = padL (elBs false E) 4 := by
          unfold elemsB
          rw [if_pos he0, ho]
        obtain ⟨A1, k1, rfl, hR⟩ := hor.r8
        have hfin := fun v w' (hr : Own8 w' w.heap.size v (padL (elBs false E) 4)) (hb : Below w.heap.size w w') => (⟨v, by rw [he0], by rw [heB]; exact hr, hb⟩ : ElemsOwn 4096 E w (.returned (.tuple #[v, .int .i64 0])) w')
        clear he0 heB hall
        subst hqn
        go_wp2_with fail
        refine (ref_pad_own _ _ _ _ _ hR (by omega) 4).mono ?_
        rintro e w2 ⟨v2, rfl, hO2, hb2⟩
        have hf := hfin _ _ (owns_base hO2 hbr.size) (hbr.trans (hb2.mono hbr.size))
        go_wp2_with fail
        go_ret2
        exact hf
end Go.Proofs.Ytpcdmcaojgpfoaa.RP
