/- Contract: limelightref3.Elems. -/
import Derived.Test.YtpcdmcaojgpfoaaAppG
import Derived.Test.YtpcdmcaojgpfoaaCRefPad
import Derived.Deep.CutRange
namespace Go.Proofs.Ytpcdmcaojgpfoaa
open Go.RowKit
set_option linter.unusedVariables false
set_option linter.unusedSimpArgs false
set_option maxRecDepth 20000

/-- An element that may not be; its bytes; all of them; what Elems answers. -/
def badE (one : Bool) (e : El) : Bool := (one && (decide (e.id < 1) || (decide (14 < e.id) || (decide (e.d.length < 1) || decide (16 < e.d.length))))) || (decide (e.id < 1) || (decide (255 < e.id) || decide (255 < e.d.length)))
def elB (one : Bool) (e : El) : List UInt8 := (if one then [UInt8.ofNat (16 * e.id.toNat + e.d.length - 1)] else [UInt8.ofNat e.id.toNat, UInt8.ofNat e.d.length]) ++ e.d
def elBs (one : Bool) (E : List El) : List UInt8 := E.flatMap (elB one)
theorem elBs_step (one : Bool) (E : List El) (q : Nat) (h : q < E.length) : elBs one (E.take (q + 1)) = elBs one (E.take q) ++ elB one E[q] := by
  unfold elBs
  rw [List.take_add_one, List.getElem?_eq_getElem h, List.flatMap_append]
  simp
theorem elBs_len (one : Bool) (E : List El) (h : ∀ e ∈ E, badE one e = false) : (elBs one E).length ≤ 257 * E.length := by
  induction E with
  | nil => simp [elBs]
  | cons x r ih =>
    have h1 := ih fun e he => h e (List.mem_cons_of_mem _ he)
    have h2 := h x (by simp)
    have h3 : x.d.length ≤ 255 := by
      simp only [badE, Bool.or_eq_false_iff, decide_eq_false_iff_not] at h2
      omega
    have e1 : elBs one (x :: r) = elB one x ++ elBs one r := by simp [elBs]
    rw [e1, List.length_append, List.length_cons]
    unfold elB
    cases one <;> simp <;> omega
def isOne (prof : Nat) : Bool := decide (prof = 48862)
def elemsErr (prof : Nat) (E : List El) : Int :=
  if prof ≠ 48862 ∧ prof ≠ 4096 then 1 else if 8 < E.length then 3 else if E.any (badE (isOne prof)) = true then 1 else 0
def elemsB (prof : Nat) (E : List El) : List UInt8 := if elemsErr prof E = 0 then padL (elBs (isOne prof) E) 4 else []
def ElemsRet (prof : Nat) (E : List El) (w : World) (e : Ending) (w' : World) : Prop :=
  ∃ A' c', e = .returned (.tuple #[.slice A' (elemsB prof E).length c', .int .i64 (elemsErr prof E)]) ∧ R8 w' w'.heap.size A' (elemsB prof E).length c' (elemsB prof E) ∧ Below w.heap.size w w'
/-- A refusal. -/
theorem ElemsRet.no {prof : Nat} {E : List El} {w w' : World} {k : Int} (h : elemsErr prof E = k) (hk : k ≠ 0) (hb : Below w.heap.size w w') : ElemsRet prof E w (.returned (.tuple #[.slice none 0 0, .int .i64 k])) w' := by
  have e : elemsB prof E = [] := by
    unfold elemsB
    rw [if_neg (by rw [h]; exact hk)]
  refine ⟨none, 0, ?_, ?_, hb⟩
  · rw [e, h]
    rfl
  · rw [e]
    exact R8.nil _ _ _ _
theorem err_bad {prof : Nat} {E : List El} {q : Nat} (h1 : prof = 48862 ∨ prof = 4096) (h2 : E.length ≤ 8) (hq : q < E.length) (hb : badE (isOne prof) E[q] = true) : elemsErr prof E = 1 := by
  unfold elemsErr
  rw [if_neg (by omega), if_neg (by omega), if_pos (List.any_eq_true.2 ⟨_, List.getElem_mem hq, hb⟩)]
theorem err_ok {prof : Nat} {E : List El} (h1 : prof = 48862 ∨ prof = 4096) (h2 : E.length ≤ 8) (hb : ∀ e ∈ E, badE (isOne prof) e = false) : elemsErr prof E = 0 := by
  unfold elemsErr
  rw [if_neg (by omega), if_neg (by omega), if_neg ?_]
  intro h
  obtain ⟨e, he, h'⟩ := List.any_eq_true.1 h
  rw [hb e he] at h'
  cases h'
theorem two_r8 (w : World) (a b : UInt8) (x y : Int) (hx : x = (a.toNat : Int)) (hy : y = (b.toNat : Int)) : R8 (w.alloc (.cells #[.int .u8 x, .int .u8 y] 5)) (w.heap.size + 1) (some ⟨w.heap.size, 0, none⟩) 2 2 [a, b] := by
  subst hx
  subst hy
  have h : Blk (w.alloc (.cells #[.int .u8 (a.toNat : Int), .int .u8 (b.toNat : Int)] 5)) w.heap.size 5 (([a, b].map bv).toArray) := Blk.new _ _ _
  have := h.r8 (n := 2) (c := 2) rfl (Nat.le_refl _)
  simpa using this
theorem Own8_nil (w : World) (base : Nat) : Own8 w base (.slice none 0 0) [] := ⟨rfl, .inl ⟨rfl, rfl⟩⟩
set_option maxHeartbeats 4000000 in
theorem ref_elems (prof : Nat) (A : Option Addr) (n c : Nat) (E : List El) (w : World) (hp : prof < 65536) (h : RE w w.heap.size A n c E) (hn : n ≤ 140737488355328) (hdl : ∀ e ∈ E, e.d.length ≤ 140737488355328) :
    Calls Try.prog 21 #[.int .u16 (prof : Int), .slice A n c] w (ElemsRet prof E w) := by
  have hEn := Lib.hid h.1
  go_enter Try.func21, Try.ntmps21
  by_cases hp1 : prof ≠ 48862 ∧ prof ≠ 4096
  · have g1 : ((prof : Int) != 48862) = true := by simp; omega
    have g2 : ((prof : Int) != 4096) = true := by simp; omega
    have he : elemsErr prof E = 1 := if_pos hp1
    have hno := ElemsRet.no he (by omega) (Below.refl w.heap.size w)
    clear hp1 he
    go_wp2_with fail
    go_ret2
    exact hno
  have hpp : prof = 48862 ∨ prof = 4096 := by omega
  by_cases h8 : 8 < n
  · have he : elemsErr prof E = 3 := by
      unfold elemsErr
      rw [if_neg (by omega), if_pos (by rw [hEn.out]; exact h8)]
    have hno := ElemsRet.no he (by omega) (Below.refl w.heap.size w)
    have g8 : (8 : Int) < (n : Int) := by omega
    clear he
    rcases hpp with rfl | rfl
    all_goals
      go_wp2_with fail
      go_ret2
      exact hno
  have g8 : ¬ (8 : Int) < (n : Int) := by omega
  rcases hpp with rfl | rfl
  · have ho : isOne 48862 = true := by decide
    go_wp2_with fail
    go_loopw [6, 8, 9, 21] (fun v _ _ i wr => ∃ q : Nat, q ≤ n ∧ i = .int .i64 (q : Int) ∧ Own8 wr w.heap.size v (elBs true (E.take q)) ∧ (∀ e ∈ E.take q, badE true e = false) ∧ Below w.heap.size w wr) (fun _ _ _ i _ => n - (intOf i).toNat)
    case atStart => exact ⟨0, by omega, rfl, by simpa [elBs] using Own8_nil _ _, by simp, Below.refl _ _⟩
    case round =>
      obtain ⟨q, hq, rfl, hor, hgood, hbr⟩ := hrel
      by_cases hlt : q < n
      · have g3 : decide ((q : Int) < (n : Int)) = true := by simp; omega
        have hqE : q < E.length := by rw [hEn.out]; exact hlt
        have hEm : E[q] ∈ E := List.getElem_mem hqE
        have hEl := h.2.2.1 _ hEm
        have hdq := hdl _ hEm
        obtain ⟨b, off, rfl, hbl, hcell⟩ := h.2.2.2 (by omega)
        obtain ⟨k1, k2⟩ := cellsE_get E q hqE
        have hstep := Lib.hid (elBs_step true E q hqE)
        have htake := Lib.hid (show E.take (q + 1) = E.take q ++ [E[q]] by rw [List.take_add_one, List.getElem?_eq_getElem hqE]; rfl)
        have hbad := fun (hb : badE true E[q] = true) => err_bad (prof := 48862) (.inl rfl) (by rw [hEn.out]; omega) hqE (by rw [ho]; exact hb)
        have c0 : wr.cell? ⟨b, off + q * 2, none⟩ = some (.int .i64 E[q].id) := by
          rw [Nat.mul_comm]
          exact (hbr.cell (p := ⟨b, off + 2 * q, none⟩) hbl).trans (hcell _ _ k1)
        have c1 : wr.cell? ⟨b, off + q * 2 + 1, none⟩ = some (.slice E[q].A E[q].d.length E[q].c) := by
          rw [Nat.mul_comm]
          exact (hbr.cell (p := ⟨b, off + (2 * q + 1), none⟩) hbl).trans (hcell _ _ k2)
        have hElr := hEl.2.below hbr
        have hEbl := And.intro hgood (And.intro hstep htake)
        have hsz := hbr.size
        clear hcell k1 k2 hgood hstep htake hdl
        revert hEl hdq hbad c0 c1 hElr hEbl hEm
        generalize E[q] = X
        obtain ⟨id, XA, Xc, Xd⟩ := X
        intro hEm hEl hdq hbad c0 c1 hElr hEbl
        obtain ⟨hgood, hstep, htake⟩ := hEbl
        have hid := hEl.1
        simp only [I64] at hid hdq c0 c1 hElr
        have hlow := h.2.2.1
        have hElw := hEl.2
        simp only at hElw
        clear hEl hEm hlow
        have hbW := hbr.alloc hsz (.cells #[.int .i64 id, .slice XA Xd.length Xc] 51)
        by_cases t0 : id < 1
        · have u0 : (id : Int) < 1 := by omega
          have hno := ElemsRet.no (hbad (by simp [badE, t0])) (by omega) hbW
          clear hbad
          go_wp2_with fail
          go_ret2
          exact hno
        have u0 : ¬ (id : Int) < 1 := by omega
        by_cases t1 : 14 < id
        · have u1 : (14 : Int) < id := by omega
          have hno := ElemsRet.no (hbad (by simp [badE, t1])) (by omega) hbW
          clear hbad
          go_wp2_with fail
          go_ret2
          exact hno
        have u1 : ¬ (14 : Int) < id := by omega
        by_cases t2 : Xd.length < 1
        · have u2 : (Xd.length : Int) < 1 := by omega
          have hno := ElemsRet.no (hbad (by simp [badE, t2])) (by omega) hbW
          clear hbad
          go_wp2_with fail
          go_ret2
          exact hno
        have u2 : ¬ (Xd.length : Int) < 1 := by omega
        by_cases t3 : 16 < Xd.length
        · have u3 : (16 : Int) < (Xd.length : Int) := by omega
          have hno := ElemsRet.no (hbad (by simp [badE, t3])) (by omega) hbW
          clear hbad
          go_wp2_with fail
          go_ret2
          exact hno
        have u3 : ¬ (16 : Int) < (Xd.length : Int) := by omega
        have hok : badE true ⟨id, XA, Xc, Xd⟩ = false := by
          have q1 : ¬ 255 < id := by omega
          have q2 : ¬ 255 < Xd.length := by omega
          simp [badE, t0, t1, t2, t3, q1, q2]
        clear hbad
        have hlq := elBs_len true (E.take q) hgood
        rw [List.length_take] at hlq
        go_upto_region 13 with (fail)
        have hblk : (wr.alloc (.cells #[.int .i64 id, .slice XA Xd.length Xc] 51)).heap[wr.heap.size]? = some (.cells #[.int .i64 id, .slice XA Xd.length Xc] 51 (0, 0)) := Blk.new _ _ _
        have horW := hor.alloc (.cells #[.int .i64 id, .slice XA Xd.length Xc] 51)
        have hvb : ∀ b, Value.ownBlock u6 = some b → b < wr.heap.size := fun b hb => (World.ownsRow.lt hor b hb).2
        clear hor hbr hElr c0 c1
        revert hblk horW hbW
        generalize wr.alloc (.cells #[.int .i64 id, .slice XA Xd.length Xc] 51) = W
        revert hvb hsz
        generalize wr.heap.size = L
        intro hsz hvb hbW hblk horW
        have hsW := hbW.size
        have hLW : L < W.heap.size := (Array.getElem?_eq_some_iff.1 hblk).1
        have c0 : W.cell? ⟨L, 0, none⟩ = some (.int .i64 id) := by simp [World.cell?, hblk]
        have c1 : W.cell? ⟨L, 1, none⟩ = some (.slice XA Xd.length Xc) := by simp [World.cell?, hblk]
        have hx8 := Lib.hid (show (16 * id + (Xd.length : Int) - 1) = (((UInt8.ofNat (16 * id.toNat + Xd.length - 1)).toNat : Nat) : Int) by simp; omega)
        have hl1 : (elBs true (E.take q)).length + 1 ≤ 140737488355328 := by omega
        have hl2 : (elBs true (E.take q) ++ [UInt8.ofNat (16 * id.toNat + Xd.length - 1)]).length + Xd.length ≤ 140737488355328 := by rw [List.length_append]; simp only [List.length_cons, List.length_nil]; omega
        go_upto_region 15 with (at_builtin; ((with_reducible refine wpList_append8 rfl (.tmp 64) (.tmp 72) rfl rfl w.heap.size u6 (elBs true (E.take q)) (by with_unfolding_all rfl) (by with_unfolding_all exact horW.alloc _) (W.heap.size + 1) (some ⟨W.heap.size, 0, none⟩) 1 1 [UInt8.ofNat (16 * id.toNat + Xd.length - 1)] (by with_unfolding_all rfl) (by with_unfolding_all exact (one_r8 W _ _ hx8.out)) hl1 (le_alloc hsW _) ?_); intro v2 w2 ha2))
        have hb2 := ha2.below (hbW.alloc hsW _) (le_alloc hsW _) (horW.alloc _) (Nat.le_refl _)
        have hblk2 : w2.heap[L]? = some (.cells #[.int .i64 id, .slice XA Xd.length Xc] 51 (0, 0)) := by
          rw [ha2.2.1.block L (by simp; omega) (fun e' => by have := hvb L e'.symm; omega)]
          exact (((Below.refl W.heap.size W).alloc (Nat.le_refl _) _).block L hLW).trans hblk
        have d1 : w2.cell? ⟨L, 1, none⟩ = some (.slice XA Xd.length Xc) := by simp [World.cell?, hblk2]
        have hR2 := hElw.below hb2
        have ho2 := ha2.1
        have hs2 := hb2.size
        clear c0 c1 hblk hblk2 ha2 horW hbW hElw
        go_wp2_with (at_builtin; ((with_reducible refine wpList_append8 rfl (.tmp 82) (.tmp 84) rfl rfl w.heap.size v2 (elBs true (E.take q) ++ [UInt8.ofNat (16 * id.toNat + Xd.length - 1)]) (by with_unfolding_all rfl) ho2 w.heap.size XA Xd.length Xc Xd (by with_unfolding_all rfl) hR2 hl2 hs2 ?_); intro v3 w3 ha3))
        have hb3 := ha3.below hb2 hs2 ho2 (Nat.le_refl _)
        go_roundw
        case rel =>
          refine ⟨q + 1, by omega, by go_num, ?_, ?_, hb3⟩
          · rw [hstep.out]
            have h9 := ha3.1
            rw [List.append_assoc] at h9
            exact h9
          · rw [htake.out]
            intro e he
            rcases List.mem_append.1 he with he | he
            · exact hgood e he
            · rw [List.mem_singleton.1 he]
              exact hok
        case measure => simp [intOf]; omega
      · have g3 : decide ((q : Int) < (n : Int)) = false := by simp; omega
        have hqn : q = n := by omega
        have hall : E.take q = E := List.take_of_length_le (by rw [hEn.out]; omega)
        rw [hall] at hor hgood
        have hlb := elBs_len true E hgood
        rw [hEn.out] at hlb
        have he0 := err_ok (prof := 48862) (.inl rfl) (by rw [hEn.out]; omega) (by rw [ho]; exact hgood)
        have heB : elemsB 48862 E = padL (elBs true E) 4 := by
          unfold elemsB
          rw [if_pos he0, ho]
        obtain ⟨A1, k1, rfl, hR⟩ := hor.r8
        have hfin := fun A' c' w' (hr : R8 w' w'.heap.size A' (padL (elBs true E) 4).length c' (padL (elBs true E) 4)) (hb : Below w.heap.size w w') => (⟨A', c', by rw [heB, he0], by rw [heB]; exact hr, hb⟩ : ElemsRet 48862 E w (.returned (.tuple #[.slice A' (padL (elBs true E) 4).length c', .int .i64 0])) w')
        clear he0 heB hall
        subst hqn
        go_wp2_with fail
        refine (ref_pad_all _ _ _ _ _ hR (by omega) 4).mono ?_
        rintro e w2 ⟨A2, m2, c2, rfl, hR2, hb2⟩
        have hm2 := hR2.1
        subst hm2
        have hf := hfin _ _ _ hR2 (hbr.trans (hb2.mono hbr.size))
        go_wp2_with fail
        go_ret2
        exact hf
  · have ho : isOne 4096 = false := by decide
    go_wp2_with fail
    go_loopw [6, 8, 9, 21] (fun v _ _ i wr => ∃ q : Nat, q ≤ n ∧ i = .int .i64 (q : Int) ∧ Own8 wr w.heap.size v (elBs false (E.take q)) ∧ (∀ e ∈ E.take q, badE false e = false) ∧ Below w.heap.size w wr) (fun _ _ _ i _ => n - (intOf i).toNat)
    case atStart => exact ⟨0, by omega, rfl, by simpa [elBs] using Own8_nil _ _, by simp, Below.refl _ _⟩
    case round =>
      obtain ⟨q, hq, rfl, hor, hgood, hbr⟩ := hrel
      by_cases hlt : q < n
      · have g3 : decide ((q : Int) < (n : Int)) = true := by simp; omega
        have hqE : q < E.length := by rw [hEn.out]; exact hlt
        have hEm : E[q] ∈ E := List.getElem_mem hqE
        have hEl := h.2.2.1 _ hEm
        have hdq := hdl _ hEm
        obtain ⟨b, off, rfl, hbl, hcell⟩ := h.2.2.2 (by omega)
        obtain ⟨k1, k2⟩ := cellsE_get E q hqE
        have hstep := Lib.hid (elBs_step false E q hqE)
        have htake := Lib.hid (show E.take (q + 1) = E.take q ++ [E[q]] by rw [List.take_add_one, List.getElem?_eq_getElem hqE]; rfl)
        have hbad := fun (hb : badE false E[q] = true) => err_bad (prof := 4096) (.inr rfl) (by rw [hEn.out]; omega) hqE (by rw [ho]; exact hb)
        have c0 : wr.cell? ⟨b, off + q * 2, none⟩ = some (.int .i64 E[q].id) := by
          rw [Nat.mul_comm]
          exact (hbr.cell (p := ⟨b, off + 2 * q, none⟩) hbl).trans (hcell _ _ k1)
        have c1 : wr.cell? ⟨b, off + q * 2 + 1, none⟩ = some (.slice E[q].A E[q].d.length E[q].c) := by
          rw [Nat.mul_comm]
          exact (hbr.cell (p := ⟨b, off + (2 * q + 1), none⟩) hbl).trans (hcell _ _ k2)
        have hElr := hEl.2.below hbr
        have hEbl := And.intro hgood (And.intro hstep htake)
        have hsz := hbr.size
        clear hcell k1 k2 hgood hstep htake hdl
        revert hEl hdq hbad c0 c1 hElr hEbl hEm
        generalize E[q] = X
        obtain ⟨id, XA, Xc, Xd⟩ := X
        intro hEm hEl hdq hbad c0 c1 hElr hEbl
        obtain ⟨hgood, hstep, htake⟩ := hEbl
        have hid := hEl.1
        simp only [I64] at hid hdq c0 c1 hElr
        have hlow := h.2.2.1
        have hElw := hEl.2
        simp only at hElw
        clear hEl hEm hlow
        have hbW := hbr.alloc hsz (.cells #[.int .i64 id, .slice XA Xd.length Xc] 51)
        by_cases t0 : id < 1
        · have u0 : (id : Int) < 1 := by omega
          have hno := ElemsRet.no (hbad (by simp [badE, t0])) (by omega) hbW
          clear hbad
          go_wp2_with fail
          go_ret2
          exact hno
        have u0 : ¬ (id : Int) < 1 := by omega
        by_cases t1 : 255 < id
        · have u1 : (255 : Int) < id := by omega
          have hno := ElemsRet.no (hbad (by simp [badE, t1])) (by omega) hbW
          clear hbad
          go_wp2_with fail
          go_ret2
          exact hno
        have u1 : ¬ (255 : Int) < id := by omega
        by_cases t2 : 255 < Xd.length
        · have u2 : (255 : Int) < (Xd.length : Int) := by omega
          have hno := ElemsRet.no (hbad (by simp [badE, t2])) (by omega) hbW
          clear hbad
          go_wp2_with fail
          go_ret2
          exact hno
        have u2 : ¬ (255 : Int) < (Xd.length : Int) := by omega
        have hok : badE false ⟨id, XA, Xc, Xd⟩ = false := by
          have q1 : ¬ 255 < id := by omega
          have q2 : ¬ 255 < Xd.length := by omega
          simp [badE, t0, t1, t2, q1, q2]
        clear hbad
        have hlq := elBs_len false (E.take q) hgood
        rw [List.length_take] at hlq
        go_upto_region 14 with (fail)
        have hblk : (wr.alloc (.cells #[.int .i64 id, .slice XA Xd.length Xc] 51)).heap[wr.heap.size]? = some (.cells #[.int .i64 id, .slice XA Xd.length Xc] 51 (0, 0)) := Blk.new _ _ _
        have horW := hor.alloc (.cells #[.int .i64 id, .slice XA Xd.length Xc] 51)
        have hvb : ∀ b, Value.ownBlock u6 = some b → b < wr.heap.size := fun b hb => (World.ownsRow.lt hor b hb).2
        clear hor hbr hElr c0 c1
        revert hblk horW hbW
        generalize wr.alloc (.cells #[.int .i64 id, .slice XA Xd.length Xc] 51) = W
        revert hvb hsz
        generalize wr.heap.size = L
        intro hsz hvb hbW hblk horW
        have hsW := hbW.size
        have hLW : L < W.heap.size := (Array.getElem?_eq_some_iff.1 hblk).1
        have c0 : W.cell? ⟨L, 0, none⟩ = some (.int .i64 id) := by simp [World.cell?, hblk]
        have c1 : W.cell? ⟨L, 1, none⟩ = some (.slice XA Xd.length Xc) := by simp [World.cell?, hblk]
        have hx8 := Lib.hid (show id = (((UInt8.ofNat id.toNat).toNat : Nat) : Int) by simp; omega)
        have hy8 := Lib.hid (show (Xd.length : Int) = (((UInt8.ofNat Xd.length).toNat : Nat) : Int) by simp; omega)
        have hl1 : (elBs false (E.take q)).length + 2 ≤ 140737488355328 := by omega
        have hl2 : (elBs false (E.take q) ++ [UInt8.ofNat id.toNat, UInt8.ofNat Xd.length]).length + Xd.length ≤ 140737488355328 := by rw [List.length_append]; simp only [List.length_cons, List.length_nil]; omega
        go_upto_region 15 with (at_builtin; ((with_reducible refine wpList_append8 rfl (.tmp 74) (.tmp 80) rfl rfl w.heap.size u6 (elBs false (E.take q)) (by with_unfolding_all rfl) (by with_unfolding_all exact horW.alloc _) (W.heap.size + 1) (some ⟨W.heap.size, 0, none⟩) 2 2 [UInt8.ofNat id.toNat, UInt8.ofNat Xd.length] (by with_unfolding_all rfl) (by with_unfolding_all exact (two_r8 W _ _ _ _ hx8.out hy8.out)) hl1 (le_alloc hsW _) ?_); intro v2 w2 ha2))
        have hb2 := ha2.below (hbW.alloc hsW _) (le_alloc hsW _) (horW.alloc _) (Nat.le_refl _)
        have hblk2 : w2.heap[L]? = some (.cells #[.int .i64 id, .slice XA Xd.length Xc] 51 (0, 0)) := by
          rw [ha2.2.1.block L (by simp; omega) (fun e' => by have := hvb L e'.symm; omega)]
          exact (((Below.refl W.heap.size W).alloc (Nat.le_refl _) _).block L hLW).trans hblk
        have d1 : w2.cell? ⟨L, 1, none⟩ = some (.slice XA Xd.length Xc) := by simp [World.cell?, hblk2]
        have hR2 := hElw.below hb2
        have ho2 := ha2.1
        have hs2 := hb2.size
        clear c0 c1 hblk hblk2 ha2 horW hbW hElw
        go_wp2_with (at_builtin; ((with_reducible refine wpList_append8 rfl (.tmp 82) (.tmp 84) rfl rfl w.heap.size v2 (elBs false (E.take q) ++ [UInt8.ofNat id.toNat, UInt8.ofNat Xd.length]) (by with_unfolding_all rfl) ho2 w.heap.size XA Xd.length Xc Xd (by with_unfolding_all rfl) hR2 hl2 hs2 ?_); intro v3 w3 ha3))
        have hb3 := ha3.below hb2 hs2 ho2 (Nat.le_refl _)
        go_roundw
        case rel =>
          refine ⟨q + 1, by omega, by go_num, ?_, ?_, hb3⟩
          · rw [hstep.out]
            have h9 := ha3.1
            rw [List.append_assoc] at h9
            exact h9
          · rw [htake.out]
            intro e he
            rcases List.mem_append.1 he with he | he
            · exact hgood e he
            · rw [List.mem_singleton.1 he]
              exact hok
        case measure => simp [intOf]; omega
      · have g3 : decide ((q : Int) < (n : Int)) = false := by simp; omega
        have hqn : q = n := by omega
        have hall : E.take q = E := List.take_of_length_le (by rw [hEn.out]; omega)
        rw [hall] at hor hgood
        have hlb := elBs_len false E hgood
        rw [hEn.out] at hlb
        have he0 := err_ok (prof := 4096) (.inr rfl) (by rw [hEn.out]; omega) (by rw [ho]; exact hgood)
        have heB : elemsB 4096 E = padL (elBs false E) 4 := by
          unfold elemsB
          rw [if_pos he0, ho]
        obtain ⟨A1, k1, rfl, hR⟩ := hor.r8
        have hfin := fun A' c' w' (hr : R8 w' w'.heap.size A' (padL (elBs false E) 4).length c' (padL (elBs false E) 4)) (hb : Below w.heap.size w w') => (⟨A', c', by rw [heB, he0], by rw [heB]; exact hr, hb⟩ : ElemsRet 4096 E w (.returned (.tuple #[.slice A' (padL (elBs false E) 4).length c', .int .i64 0])) w')
        clear he0 heB hall
        subst hqn
        go_wp2_with fail
        refine (ref_pad_all _ _ _ _ _ hR (by omega) 4).mono ?_
        rintro e w2 ⟨A2, m2, c2, rfl, hR2, hb2⟩
        have hm2 := hR2.1
        subst hm2
        have hf := hfin _ _ _ hR2 (hbr.trans (hb2.mono hbr.size))
        go_wp2_with fail
        go_ret2
        exact hf
end Go.Proofs.Ytpcdmcaojgpfoaa
