/- Contracts: limelightref6.Is, nums, Tuples. -/
import Derived.Test.YtnchgmemajmkjaaRcM
import Derived.Test.YtnchgmemajmkjaaRatR
import Derived.BigQuiet
import Derived.Deep.QuietTactic
namespace Go.Proofs.Ytnchgmemajmkjaa
open Go.RowKit
set_option linter.unusedVariables false
set_option linter.unusedSimpArgs false
set_option maxRecDepth 20000

/-- It answers v, and nothing is written (it may have drawn). -/
def AnsQ (v : Value) (w : World) (e : Ending) (w' : World) : Prop := e = .returned v ∧ ∃ k, w' = w.drewN k
theorem AnsQ.ans {v : Value} {w w' : World} {e : Ending} (h : AnsQ v w e w') : AnsW v w e w' := ⟨h.1, by obtain ⟨k, rfl⟩ := h.2; exact below_drewN _ _ _⟩
def isB (l : List UInt8) : Bool := decide (2 ≤ l.length) && (decide (192 ≤ (l.getD 1 0).toNat) && decide ((l.getD 1 0).toNat ≤ 223))
theorem ref6_is (A : Option Addr) (n c : Nat) (l : List UInt8) (w : World) (h : R8 w w.heap.size A n c l) : Calls Try.prog 35 #[.slice A n c] w (AnsS (.bool (isB l)) w) := by
  have hl := h.1
  by_cases h2 : 2 ≤ n
  · obtain ⟨b, off, rfl, hb, hc⟩ := h.2.2 (by omega)
    have c1 := hc 1 (by omega)
    have e : isB l = (decide (192 ≤ (l.getD 1 0).toNat) && decide ((l.getD 1 0).toNat ≤ 223)) := by simp [isB, hl, h2]
    rw [e]
    clear hc h e hl
    generalize l.getD 1 0 = x at c1 ⊢
    have g2 : (2 : Int) ≤ (n : Int) := by omega
    have g1 : (1 : Int) < (n : Int) := by omega
    have g0 : 1 < n := by omega
    by_cases x1 : 192 ≤ x.toNat
    · have d1 : decide ((192 : Int) ≤ (x.toNat : Int)) = true := by simp only [decide_eq_true_eq]; omega
      by_cases x2 : x.toNat ≤ 223
      · have d2 : decide ((x.toNat : Int) ≤ 223) = true := by simp only [decide_eq_true_eq]; omega
        have e : (decide (192 ≤ x.toNat) && decide (x.toNat ≤ 223)) = true := by simp [x1, x2]
        rw [e]
        clear x1 x2 e
        go_enter Try.func35, Try.ntmps35
        go_wp2_with fail
        go_ret
        exact ⟨rfl, rfl⟩
      · have d2 : decide ((x.toNat : Int) ≤ 223) = false := by simp only [decide_eq_false_iff_not]; omega
        have e : (decide (192 ≤ x.toNat) && decide (x.toNat ≤ 223)) = false := by simp [x2]
        rw [e]
        clear x1 x2 e
        go_enter Try.func35, Try.ntmps35
        go_wp2_with fail
        go_ret
        exact ⟨rfl, rfl⟩
    · have d1 : decide ((192 : Int) ≤ (x.toNat : Int)) = false := by simp only [decide_eq_false_iff_not]; omega
      have e : (decide (192 ≤ x.toNat) && decide (x.toNat ≤ 223)) = false := by simp [x1]
      rw [e]
      clear x1 e
      go_enter Try.func35, Try.ntmps35
      go_wp2_with fail
      go_ret
      exact ⟨rfl, rfl⟩
  · have e : isB l = false := by simp [isB, hl, h2]
    rw [e]
    clear e
    have g2 : ¬ (2 : Int) ≤ (n : Int) := by omega
    go_enter Try.func35, Try.ntmps35
    go_wp2_with fail
    go_ret
    exact ⟨rfl, rfl⟩
theorem take_same {α : Type} {l m : List α} {q : Nat} (h1 : q < l.length) (h2 : q < m.length) (h : l.take q = m.take q) (he : l[q] = m[q]) : l.take (q + 1) = m.take (q + 1) := by
  rw [List.take_add_one, List.take_add_one, h, List.getElem?_eq_getElem h1, List.getElem?_eq_getElem h2, he]
set_option maxHeartbeats 1000000 in
theorem ref6_nums (A : Option Addr) (n c : Nat) (l : List Nat) (A' : Option Addr) (n' c' : Nat) (m : List Nat) (w : World) (h : R32 w w.heap.size A n c l) (h' : R32 w w.heap.size A' n' c' m) (hn : n ≤ 140737488355328) (hn' : n' ≤ 140737488355328) :
    Calls Try.prog 40 #[.slice A n c, .slice A' n' c'] w (AnsQ (.bool (decide (l = m))) w) := by
  have hl := h.1
  have hm := h'.1
  by_cases hnn : n = n'
  rotate_left
  · have e : decide (l = m) = false := by
      simp only [decide_eq_false_iff_not]
      rintro rfl
      omega
    rw [e]
    have g : ((n : Int) != (n' : Int)) = true := by simp; omega
    clear e hnn hl hm h h'
    go_enter Try.func40, Try.ntmps40
    go_wp2_with fail
    go_ret
    exact ⟨rfl, 0, rfl⟩
  subst hnn
  have HL := Lib.hid hl
  have HM := Lib.hid hm
  clear hl hm
  go_enter Try.func40, Try.ntmps40
  go_wp2_with fail
  go_loopw [5, 13] (fun _ i wr => ∃ q : Nat, q ≤ n ∧ i = .int .i64 (q : Int) ∧ l.take q = m.take q ∧ ∃ k, wr = w.drewN k) (fun _ i _ => n - (intOf i).toNat)
  case atStart => exact ⟨0, by omega, rfl, by simp, 0, rfl⟩
  case round =>
    obtain ⟨q, hq, rfl, htk, k, rfl⟩ := hrel
    have HT := Lib.hid htk
    clear htk
    by_cases hlt : q < n
    · have g3 : decide ((q : Int) < (n : Int)) = true := by simp; omega
      have g4 : (q : Int) < (n : Int) := by omega
      have hql : q < l.length := by rw [HL.out]; exact hlt
      have hqm : q < m.length := by rw [HM.out]; exact hlt
      obtain ⟨b, off, rfl, hb, hc⟩ := h.2.2.2 (by omega)
      obtain ⟨b', off', rfl, hb', hc'⟩ := h'.2.2.2 (by omega)
      have c0 : (w.drewN k).cell? ⟨b, off + q, none⟩ = some (.int .u32 (l[q] : Int)) := by
        have := hc q hlt
        rw [List.getD_eq_getElem?_getD, List.getElem?_eq_getElem hql] at this
        exact this
      have c1 : (w.drewN k).cell? ⟨b', off' + q, none⟩ = some (.int .u32 (m[q] : Int)) := by
        have := hc' q hlt
        rw [List.getD_eq_getElem?_getD, List.getElem?_eq_getElem hqm] at this
        exact this
      have hst := Lib.hid (fun he => take_same hql hqm HT.out he)
      have hne : l[q] ≠ m[q] → l ≠ m := fun hx e => hx (by subst e; rfl)
      have HN := Lib.hid hne
      clear hc hc' h h' hne
      generalize l[q] = x at c0 hst HN
      generalize m[q] = y at c1 hst HN
      generalize hW : w.drewN k = W at c0 c1 ⊢
      have HW := Lib.hid hW
      clear hW
      by_cases hxy : x = y
      · subst hxy
        go_wp2_with fail
        go_quiet (fail)
        clear c0 c1
        go_wp2_with fail
        go_roundw
        case rel => exact ⟨q + 1, by omega, by go_num, hst.out (by simp), k + nq, by rw [← HW.out]; exact World.drewN_drewN _ _ _⟩
        case measure => simp [intOf]; omega
      · have g5 : ((x : Int) != (y : Int)) = true := by simp; omega
        have hf := Lib.hid (HN.out hxy)
        clear hxy HN
        go_wp2_with fail
        go_quiet (fail)
        clear c0 c1
        go_wp2_with fail
        go_ret
        exact ⟨by rw [decide_eq_false hf.out]; rfl, k + nq, by rw [← HW.out]; exact World.drewN_drewN _ _ _⟩
    · have g3 : ¬ (q : Int) < (n : Int) := by omega
      have he : l = m := by
        have := HT.out
        rwa [List.take_of_length_le (by rw [HL.out]; omega), List.take_of_length_le (by rw [HM.out]; omega)] at this
      have HE := Lib.hid he
      clear he h h'
      go_wp2_with fail
      go_ret
      exact ⟨by rw [decide_eq_true HE.out]; rfl, k, rfl⟩
deriving instance DecidableEq for Tup
set_option maxHeartbeats 1000000 in
theorem ref6_Tuples (A : Option Addr) (n c : Nat) (l : List Tup) (A' : Option Addr) (n' c' : Nat) (m : List Tup) (w : World) (h : RT w w.heap.size A n c l) (h' : RT w w.heap.size A' n' c' m) (hn : n ≤ 140737488355328) (hn' : n' ≤ 140737488355328) :
    Calls Try.prog 26 #[.slice A n c, .slice A' n' c'] w (AnsQ (.bool (decide (l = m))) w) := by
  have hl := h.1
  have hm := h'.1
  by_cases hnn : n = n'
  rotate_left
  · have e : decide (l = m) = false := by
      simp only [decide_eq_false_iff_not]
      rintro rfl
      omega
    rw [e]
    have g : ((n : Int) != (n' : Int)) = true := by simp; omega
    clear e hnn hl hm h h'
    go_enter Try.func26, Try.ntmps26
    go_wp2_with fail
    go_ret
    exact ⟨rfl, 0, rfl⟩
  subst hnn
  have HL := Lib.hid hl
  have HM := Lib.hid hm
  clear hl hm
  go_enter Try.func26, Try.ntmps26
  go_wp2_with fail
  go_loopw [5, 13] (fun _ i wr => ∃ q : Nat, q ≤ n ∧ i = .int .i64 (q : Int) ∧ l.take q = m.take q ∧ ∃ k, wr = w.drewN k) (fun _ i _ => n - (intOf i).toNat)
  case atStart => exact ⟨0, by omega, rfl, by simp, 0, rfl⟩
  case round =>
    obtain ⟨q, hq, rfl, htk, k, rfl⟩ := hrel
    have HT := Lib.hid htk
    clear htk
    by_cases hlt : q < n
    · have g3 : decide ((q : Int) < (n : Int)) = true := by simp; omega
      have g4 : (q : Int) < (n : Int) := by omega
      have hql : q < l.length := by rw [HL.out]; exact hlt
      have hqm : q < m.length := by rw [HM.out]; exact hlt
      obtain ⟨b, off, rfl, hb, p0, p1, p2⟩ := h.at hql
      obtain ⟨b', off', rfl, hb', r0, r1, r2⟩ := h'.at hqm
      have c0 : (w.drewN k).cell? _ = _ := p0
      have c1 : (w.drewN k).cell? _ = _ := p1
      have c2 : (w.drewN k).cell? _ = _ := p2
      have d0 : (w.drewN k).cell? _ = _ := r0
      have d1 : (w.drewN k).cell? _ = _ := r1
      have d2 : (w.drewN k).cell? _ = _ := r2
      have hst := Lib.hid (fun he => take_same hql hqm HT.out he)
      have hne : l[q] ≠ m[q] → l ≠ m := fun hx e => hx (by subst e; rfl)
      have HN := Lib.hid hne
      clear h h' hne p0 p1 p2 r0 r1 r2
      generalize l[q] = x at c0 c1 c2 hst HN
      generalize m[q] = y at d0 d1 d2 hst HN
      obtain ⟨xo, xr, xv⟩ := x
      obtain ⟨yo, yr, yv⟩ := y
      simp only at c0 c1 c2 d0 d1 d2
      generalize hW : w.drewN k = W at c0 c1 c2 d0 d1 d2 ⊢
      have HW := Lib.hid hW
      clear hW
      by_cases z1 : xo = yo
      · subst z1
        by_cases z2 : xr = yr
        · subst z2
          by_cases z3 : xv = yv
          · subst z3
            go_wp2_with fail
            go_quiet (fail)
            clear c0 c1 c2 d0 d1 d2
            go_wp2_with fail
            go_roundw
            case rel => exact ⟨q + 1, by omega, by go_num, hst.out (by simp), k + nq, by rw [← HW.out]; exact World.drewN_drewN _ _ _⟩
            case measure => simp [intOf]; omega
          · have g5 : (xv == yv) = false := by simpa using z3
            have hf := Lib.hid (HN.out (by simpa using z3))
            clear z3 HN
            go_wp2_with fail
            go_quiet (fail)
            clear c0 c1 c2 d0 d1 d2
            go_wp2_with fail
            go_ret
            exact ⟨by rw [decide_eq_false hf.out]; rfl, k + nq, by rw [← HW.out]; exact World.drewN_drewN _ _ _⟩
        · have g5 : ((xr : Int) == (yr : Int)) = false := by simp; omega
          have hf := Lib.hid (HN.out (by simp [z2]))
          clear z2 HN
          go_wp2_with fail
          go_quiet (fail)
          clear c0 c1 c2 d0 d1 d2
          go_wp2_with fail
          go_ret
          exact ⟨by rw [decide_eq_false hf.out]; rfl, k + nq, by rw [← HW.out]; exact World.drewN_drewN _ _ _⟩
      · have g5 : ((xo : Int) == (yo : Int)) = false := by simp; omega
        have hf := Lib.hid (HN.out (by simp [z1]))
        clear z1 HN
        go_wp2_with fail
        go_quiet (fail)
        clear c0 c1 c2 d0 d1 d2
        go_wp2_with fail
        go_ret
        exact ⟨by rw [decide_eq_false hf.out]; rfl, k + nq, by rw [← HW.out]; exact World.drewN_drewN _ _ _⟩
    · have g3 : ¬ (q : Int) < (n : Int) := by omega
      have he : l = m := by
        have := HT.out
        rwa [List.take_of_length_le (by rw [HL.out]; omega), List.take_of_length_le (by rw [HM.out]; omega)] at this
      have HE := Lib.hid he
      clear he h h'
      go_wp2_with fail
      go_ret
      exact ⟨by rw [decide_eq_true HE.out]; rfl, k, rfl⟩
end Go.Proofs.Ytnchgmemajmkjaa
