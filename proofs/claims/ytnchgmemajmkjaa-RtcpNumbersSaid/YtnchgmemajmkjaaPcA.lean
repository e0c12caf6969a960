/- Contracts: slices.Equal of words, numbers, tuples, bytes; rtcp.typed, wrongNumber, kindOf, Is. -/
import Derived.Test.YtnchgmemajmkjaaRcN
namespace Go.Proofs.Ytnchgmemajmkjaa
open Go.RowKit
set_option linter.unusedVariables false
set_option linter.unusedSimpArgs false
set_option maxRecDepth 20000

theorem R8.at {w : World} {B : Nat} {A : Option Addr} {n c : Nat} {l : List UInt8} (h : R8 w B A n c l) {q : Nat} (hq : q < l.length) : ∃ b off, A = some ⟨b, off, none⟩ ∧ b < B ∧ w.cell? ⟨b, off + q, none⟩ = some (.int .u8 (l[q].toNat : Int)) := by
  obtain ⟨b, off, e, hb, hc⟩ := h.2.2 (by rw [← h.1]; omega)
  refine ⟨b, off, e, hb, ?_⟩
  have := hc q (by rw [← h.1]; exact hq)
  rw [List.getD_eq_getElem?_getD, List.getElem?_eq_getElem hq] at this
  exact this
set_option maxHeartbeats 1000000 in
theorem eqW (A : Option Addr) (n c : Nat) (l : List Nat) (A' : Option Addr) (n' c' : Nat) (m : List Nat) (w : World) (h : R32 w w.heap.size A n c l) (h' : R32 w w.heap.size A' n' c' m) (hn : n ≤ 140737488355328) (hn' : n' ≤ 140737488355328) :
    Calls Try.prog 37 #[.slice A n c, .slice A' n' c'] w (AnsQ (.bool (decide (l = m))) w) := by
  have hl := h.1
  have hm := h'.1
  by_cases hnn : n = n'
  rotate_left
  · have e : decide (l = m) = false := by
      simp only [decide_eq_false_iff_not]
      rintro rfl
      omega
    rw [e]
    have g : ((n : Int) != (n' : Int)) = true := by simp; omega
    clear e hnn hl hm h h'
    go_enter Try.func37, Try.ntmps37
    go_wp2_with fail
    go_ret
    exact ⟨rfl, 0, rfl⟩
  subst hnn
  have HL := Lib.hid hl
  have HM := Lib.hid hm
  clear hl hm
  go_enter Try.func37, Try.ntmps37
  go_wp2_with fail
  go_loopw [5, 13] (fun _ i wr => ∃ q : Nat, q ≤ n ∧ i = .int .i64 (q : Int) ∧ l.take q = m.take q ∧ ∃ k, wr = w.drewN k) (fun _ i _ => n - (intOf i).toNat)
  case atStart => exact ⟨0, by omega, rfl, by simp, 0, rfl⟩
  case round =>
    obtain ⟨q, hq, rfl, htk, k, rfl⟩ := hrel
    have HT := Lib.hid htk
    clear htk
    by_cases hlt : q < n
    · have g3 : decide ((q : Int) < (n : Int)) = true := by simp; omega
      have g4 : (q : Int) < (n : Int) := by omega
      have hql : q < l.length := by rw [HL.out]; exact hlt
      have hqm : q < m.length := by rw [HM.out]; exact hlt
      obtain ⟨b, off, rfl, hb, hc⟩ := h.2.2.2 (by omega)
      obtain ⟨b', off', rfl, hb', hc'⟩ := h'.2.2.2 (by omega)
      have c0 : (w.drewN k).cell? ⟨b, off + q, none⟩ = some (.int .u32 (l[q] : Int)) := by
        have := hc q hlt
        rw [List.getD_eq_getElem?_getD, List.getElem?_eq_getElem hql] at this
        exact this
      have c1 : (w.drewN k).cell? ⟨b', off' + q, none⟩ = some (.int .u32 (m[q] : Int)) := by
        have := hc' q hlt
        rw [List.getD_eq_getElem?_getD, List.getElem?_eq_getElem hqm] at this
        exact this
      have hst := Lib.hid (fun he => take_same hql hqm HT.out he)
      have hne : l[q] ≠ m[q] → l ≠ m := fun hx e => hx (by subst e; rfl)
      have HN := Lib.hid hne
      clear hc hc' h h' hne
      generalize l[q] = x at c0 hst HN
      generalize m[q] = y at c1 hst HN
      generalize hW : w.drewN k = W at c0 c1 ⊢
      have HW := Lib.hid hW
      clear hW
      by_cases hxy : x = y
      · subst hxy
        go_wp2_with fail
        go_quiet (fail)
        clear c0 c1
        go_wp2_with fail
        go_roundw
        case rel => exact ⟨q + 1, by omega, by go_num, hst.out (by simp), k + nq, by rw [← HW.out]; exact World.drewN_drewN _ _ _⟩
        case measure => simp [intOf]; omega
      · have g5 : ((x : Int) != (y : Int)) = true := by simp; omega
        have hf := Lib.hid (HN.out hxy)
        clear hxy HN
        go_wp2_with fail
        go_quiet (fail)
        clear c0 c1
        go_wp2_with fail
        go_ret
        exact ⟨by rw [decide_eq_false hf.out]; rfl, k + nq, by rw [← HW.out]; exact World.drewN_drewN _ _ _⟩
    · have g3 : ¬ (q : Int) < (n : Int) := by omega
      have he : l = m := by
        have := HT.out
        rwa [List.take_of_length_le (by rw [HL.out]; omega), List.take_of_length_le (by rw [HM.out]; omega)] at this
      have HE := Lib.hid he
      clear he h h'
      go_wp2_with fail
      go_ret
      exact ⟨by rw [decide_eq_true HE.out]; rfl, k, rfl⟩
set_option maxHeartbeats 1000000 in
theorem eqT (A : Option Addr) (n c : Nat) (l : List Tup) (A' : Option Addr) (n' c' : Nat) (m : List Tup) (w : World) (h : RT w w.heap.size A n c l) (h' : RT w w.heap.size A' n' c' m) (hn : n ≤ 140737488355328) (hn' : n' ≤ 140737488355328) :
    Calls Try.prog 36 #[.slice A n c, .slice A' n' c'] w (AnsQ (.bool (decide (l = m))) w) := by
  have hl := h.1
  have hm := h'.1
  by_cases hnn : n = n'
  rotate_left
  · have e : decide (l = m) = false := by
      simp only [decide_eq_false_iff_not]
      rintro rfl
      omega
    rw [e]
    have g : ((n : Int) != (n' : Int)) = true := by simp; omega
    clear e hnn hl hm h h'
    go_enter Try.func36, Try.ntmps36
    go_wp2_with fail
    go_ret
    exact ⟨rfl, 0, rfl⟩
  subst hnn
  have HL := Lib.hid hl
  have HM := Lib.hid hm
  clear hl hm
  go_enter Try.func36, Try.ntmps36
  go_wp2_with fail
  go_loopw [5, 13] (fun _ i wr => ∃ q : Nat, q ≤ n ∧ i = .int .i64 (q : Int) ∧ l.take q = m.take q ∧ ∃ k, wr = w.drewN k) (fun _ i _ => n - (intOf i).toNat)
  case atStart => exact ⟨0, by omega, rfl, by simp, 0, rfl⟩
  case round =>
    obtain ⟨q, hq, rfl, htk, k, rfl⟩ := hrel
    have HT := Lib.hid htk
    clear htk
    by_cases hlt : q < n
    · have g3 : decide ((q : Int) < (n : Int)) = true := by simp; omega
      have g4 : (q : Int) < (n : Int) := by omega
      have hql : q < l.length := by rw [HL.out]; exact hlt
      have hqm : q < m.length := by rw [HM.out]; exact hlt
      obtain ⟨b, off, rfl, hb, p0, p1, p2⟩ := h.at hql
      obtain ⟨b', off', rfl, hb', r0, r1, r2⟩ := h'.at hqm
      have c0 : (w.drewN k).cell? _ = _ := p0
      have c1 : (w.drewN k).cell? _ = _ := p1
      have c2 : (w.drewN k).cell? _ = _ := p2
      have d0 : (w.drewN k).cell? _ = _ := r0
      have d1 : (w.drewN k).cell? _ = _ := r1
      have d2 : (w.drewN k).cell? _ = _ := r2
      have hst := Lib.hid (fun he => take_same hql hqm HT.out he)
      have hne : l[q] ≠ m[q] → l ≠ m := fun hx e => hx (by subst e; rfl)
      have HN := Lib.hid hne
      clear h h' hne p0 p1 p2 r0 r1 r2
      generalize l[q] = x at c0 c1 c2 hst HN
      generalize m[q] = y at d0 d1 d2 hst HN
      obtain ⟨xo, xr, xv⟩ := x
      obtain ⟨yo, yr, yv⟩ := y
      simp only at c0 c1 c2 d0 d1 d2
      generalize hW : w.drewN k = W at c0 c1 c2 d0 d1 d2 ⊢
      have HW := Lib.hid hW
      clear hW
      by_cases z1 : xo = yo
      · subst z1
        by_cases z2 : xr = yr
        · subst z2
          by_cases z3 : xv = yv
          · subst z3
            go_wp2_with fail
            go_quiet (fail)
            clear c0 c1 c2 d0 d1 d2
            go_wp2_with fail
            go_roundw
            case rel => exact ⟨q + 1, by omega, by go_num, hst.out (by simp), k + nq, by rw [← HW.out]; exact World.drewN_drewN _ _ _⟩
            case measure => simp [intOf]; omega
          · have g5 : (xv == yv) = false := by simpa using z3
            have hf := Lib.hid (HN.out (by simpa using z3))
            clear z3 HN
            go_wp2_with fail
            go_quiet (fail)
            clear c0 c1 c2 d0 d1 d2
            go_wp2_with fail
            go_ret
            exact ⟨by rw [decide_eq_false hf.out]; rfl, k + nq, by rw [← HW.out]; exact World.drewN_drewN _ _ _⟩
        · have g5 : ((xr : Int) == (yr : Int)) = false := by simp; omega
          have hf := Lib.hid (HN.out (by simp [z2]))
          clear z2 HN
          go_wp2_with fail
          go_quiet (fail)
          clear c0 c1 c2 d0 d1 d2
          go_wp2_with fail
          go_ret
          exact ⟨by rw [decide_eq_false hf.out]; rfl, k + nq, by rw [← HW.out]; exact World.drewN_drewN _ _ _⟩
      · have g5 : ((xo : Int) == (yo : Int)) = false := by simp; omega
        have hf := Lib.hid (HN.out (by simp [z1]))
        clear z1 HN
        go_wp2_with fail
        go_quiet (fail)
        clear c0 c1 c2 d0 d1 d2
        go_wp2_with fail
        go_ret
        exact ⟨by rw [decide_eq_false hf.out]; rfl, k + nq, by rw [← HW.out]; exact World.drewN_drewN _ _ _⟩
    · have g3 : ¬ (q : Int) < (n : Int) := by omega
      have he : l = m := by
        have := HT.out
        rwa [List.take_of_length_le (by rw [HL.out]; omega), List.take_of_length_le (by rw [HM.out]; omega)] at this
      have HE := Lib.hid he
      clear he h h'
      go_wp2_with fail
      go_ret
      exact ⟨by rw [decide_eq_true HE.out]; rfl, k, rfl⟩
set_option maxHeartbeats 1000000 in
theorem eqI (A : Option Addr) (n c : Nat) (l : List Int) (A' : Option Addr) (n' c' : Nat) (m : List Int) (w : World) (h : RN w w.heap.size A n c l) (h' : RN w w.heap.size A' n' c' m) (hn : n ≤ 140737488355328) (hn' : n' ≤ 140737488355328) :
    Calls Try.prog 38 #[.slice A n c, .slice A' n' c'] w (AnsQ (.bool (decide (l = m))) w) := by
  have hl := h.1
  have hm := h'.1
  by_cases hnn : n = n'
  rotate_left
  · have e : decide (l = m) = false := by
      simp only [decide_eq_false_iff_not]
      rintro rfl
      omega
    rw [e]
    have g : ((n : Int) != (n' : Int)) = true := by simp; omega
    clear e hnn hl hm h h'
    go_enter Try.func38, Try.ntmps38
    go_wp2_with fail
    go_ret
    exact ⟨rfl, 0, rfl⟩
  subst hnn
  have HL := Lib.hid hl
  have HM := Lib.hid hm
  clear hl hm
  go_enter Try.func38, Try.ntmps38
  go_wp2_with fail
  go_loopw [5, 13] (fun _ i wr => ∃ q : Nat, q ≤ n ∧ i = .int .i64 (q : Int) ∧ l.take q = m.take q ∧ ∃ k, wr = w.drewN k) (fun _ i _ => n - (intOf i).toNat)
  case atStart => exact ⟨0, by omega, rfl, by simp, 0, rfl⟩
  case round =>
    obtain ⟨q, hq, rfl, htk, k, rfl⟩ := hrel
    have HT := Lib.hid htk
    clear htk
    by_cases hlt : q < n
    · have g3 : decide ((q : Int) < (n : Int)) = true := by simp; omega
      have g4 : (q : Int) < (n : Int) := by omega
      have hql : q < l.length := by rw [HL.out]; exact hlt
      have hqm : q < m.length := by rw [HM.out]; exact hlt
      obtain ⟨b, off, rfl, hb, p0⟩ := h.at hql
      obtain ⟨b', off', rfl, hb', r0⟩ := h'.at hqm
      have c0 : (w.drewN k).cell? _ = _ := p0
      have c1 : (w.drewN k).cell? _ = _ := r0
      have hst := Lib.hid (fun he => take_same hql hqm HT.out he)
      have hne : l[q] ≠ m[q] → l ≠ m := fun hx e => hx (by subst e; rfl)
      have HN := Lib.hid hne
      clear h h' hne p0 r0
      generalize l[q] = x at c0 hst HN
      generalize m[q] = y at c1 hst HN
      generalize hW : w.drewN k = W at c0 c1 ⊢
      have HW := Lib.hid hW
      clear hW
      by_cases hxy : x = y
      · subst hxy
        go_wp2_with fail
        go_quiet (fail)
        clear c0 c1
        go_wp2_with fail
        go_roundw
        case rel => exact ⟨q + 1, by omega, by go_num, hst.out (by simp), k + nq, by rw [← HW.out]; exact World.drewN_drewN _ _ _⟩
        case measure => simp [intOf]; omega
      · have g5 : (x != y) = true := by simpa using hxy
        have hf := Lib.hid (HN.out hxy)
        clear hxy HN
        go_wp2_with fail
        go_quiet (fail)
        clear c0 c1
        go_wp2_with fail
        go_ret
        exact ⟨by rw [decide_eq_false hf.out]; rfl, k + nq, by rw [← HW.out]; exact World.drewN_drewN _ _ _⟩
    · have g3 : ¬ (q : Int) < (n : Int) := by omega
      have he : l = m := by
        have := HT.out
        rwa [List.take_of_length_le (by rw [HL.out]; omega), List.take_of_length_le (by rw [HM.out]; omega)] at this
      have HE := Lib.hid he
      clear he h h'
      go_wp2_with fail
      go_ret
      exact ⟨by rw [decide_eq_true HE.out]; rfl, k, rfl⟩
set_option maxHeartbeats 1000000 in
theorem eqB (A : Option Addr) (n c : Nat) (l : List UInt8) (A' : Option Addr) (n' c' : Nat) (m : List UInt8) (w : World) (h : R8 w w.heap.size A n c l) (h' : R8 w w.heap.size A' n' c' m) (hn : n ≤ 140737488355328) (hn' : n' ≤ 140737488355328) :
    Calls Try.prog 39 #[.slice A n c, .slice A' n' c'] w (AnsQ (.bool (decide (l = m))) w) := by
  have hl := h.1
  have hm := h'.1
  by_cases hnn : n = n'
  rotate_left
  · have e : decide (l = m) = false := by
      simp only [decide_eq_false_iff_not]
      rintro rfl
      omega
    rw [e]
    have g : ((n : Int) != (n' : Int)) = true := by simp; omega
    clear e hnn hl hm h h'
    go_enter Try.func39, Try.ntmps39
    go_wp2_with fail
    go_ret
    exact ⟨rfl, 0, rfl⟩
  subst hnn
  have HL := Lib.hid hl
  have HM := Lib.hid hm
  clear hl hm
  go_enter Try.func39, Try.ntmps39
  go_wp2_with fail
  go_loopw [5, 13] (fun _ i wr => ∃ q : Nat, q ≤ n ∧ i = .int .i64 (q : Int) ∧ l.take q = m.take q ∧ ∃ k, wr = w.drewN k) (fun _ i _ => n - (intOf i).toNat)
  case atStart => exact ⟨0, by omega, rfl, by simp, 0, rfl⟩
  case round =>
    obtain ⟨q, hq, rfl, htk, k, rfl⟩ := hrel
    have HT := Lib.hid htk
    clear htk
    by_cases hlt : q < n
    · have g3 : decide ((q : Int) < (n : Int)) = true := by simp; omega
      have g4 : (q : Int) < (n : Int) := by omega
      have hql : q < l.length := by rw [HL.out]; exact hlt
      have hqm : q < m.length := by rw [HM.out]; exact hlt
      obtain ⟨b, off, rfl, hb, p0⟩ := h.at hql
      obtain ⟨b', off', rfl, hb', r0⟩ := h'.at hqm
      have c0 : (w.drewN k).cell? _ = _ := p0
      have c1 : (w.drewN k).cell? _ = _ := r0
      have hst := Lib.hid (fun he => take_same hql hqm HT.out he)
      have hne : l[q] ≠ m[q] → l ≠ m := fun hx e => hx (by subst e; rfl)
      have HN := Lib.hid hne
      clear h h' hne p0 r0
      generalize l[q] = x at c0 hst HN
      generalize m[q] = y at c1 hst HN
      generalize hW : w.drewN k = W at c0 c1 ⊢
      have HW := Lib.hid hW
      clear hW
      by_cases hxy : x = y
      · subst hxy
        go_wp2_with fail
        go_quiet (fail)
        clear c0 c1
        go_wp2_with fail
        go_roundw
        case rel => exact ⟨q + 1, by omega, by go_num, hst.out (by simp), k + nq, by rw [← HW.out]; exact World.drewN_drewN _ _ _⟩
        case measure => simp [intOf]; omega
      · have g5 : ((x.toNat : Int) != (y.toNat : Int)) = true := by simp only [bne_iff_ne, ne_eq]; intro h; exact hxy (UInt8.toNat_inj.1 (by omega))
        have hf := Lib.hid (HN.out hxy)
        clear hxy HN
        go_wp2_with fail
        go_quiet (fail)
        clear c0 c1
        go_wp2_with fail
        go_ret
        exact ⟨by rw [decide_eq_false hf.out]; rfl, k + nq, by rw [← HW.out]; exact World.drewN_drewN _ _ _⟩
    · have g3 : ¬ (q : Int) < (n : Int) := by omega
      have he : l = m := by
        have := HT.out
        rwa [List.take_of_length_le (by rw [HL.out]; omega), List.take_of_length_le (by rw [HM.out]; omega)] at this
      have HE := Lib.hid he
      clear he h h'
      go_wp2_with fail
      go_ret
      exact ⟨by rw [decide_eq_true HE.out]; rfl, k, rfl⟩
def typedB (n : Int) : Bool := decide (192 ≤ n ∧ n ≤ 223)
theorem typed_any (n : Int) (w : World) : Calls Try.prog 48 #[.int .i64 n] w (AnsS (.bool (typedB n)) w) := by
  by_cases h1 : 192 ≤ n
  · by_cases h2 : n ≤ 223
    · have e : typedB n = true := by simp [typedB, h1, h2]
      rw [e]
      clear e
      go_enter Try.func48, Try.ntmps48
      go_wp2_with fail
      go_ret
      exact ⟨rfl, rfl⟩
    · have e : typedB n = false := by simp [typedB, h1, h2]
      rw [e]
      have g2 : decide (n ≤ 223) = false := by simp; omega
      clear e h2
      go_enter Try.func48, Try.ntmps48
      go_wp2_with fail
      go_ret
      exact ⟨rfl, rfl⟩
  · have e : typedB n = false := by simp [typedB, h1]
    rw [e]
    have g1 : decide (192 ≤ n) = false := by simp; omega
    clear e h1
    go_enter Try.func48, Try.ntmps48
    go_wp2_with fail
    go_ret
    exact ⟨rfl, rfl⟩
def wrongN (n : Int) : Bool := !decide (0 ≤ n ∧ n ≤ 255)
theorem wrongNumber_any (n : Int) (w : World) : Calls Try.prog 76 #[.int .i64 n] w (AnsS (.bool (wrongN n)) w) := by
  by_cases h1 : 0 ≤ n
  · by_cases h2 : n ≤ 255
    · have e : wrongN n = false := by simp [wrongN, h1, h2]
      rw [e]
      have g1 : decide (n < 0) = false := by simp; omega
      have g2 : decide (255 < n) = false := by simp; omega
      clear e
      go_enter Try.func76, Try.ntmps76
      go_wp2_with fail
      go_ret
      exact ⟨rfl, rfl⟩
    · have e : wrongN n = true := by simp [wrongN, h1, h2]
      rw [e]
      have g1 : decide (n < 0) = false := by simp; omega
      have g2 : 255 < n := by omega
      clear e h2
      go_enter Try.func76, Try.ntmps76
      go_wp2_with fail
      go_ret
      exact ⟨rfl, rfl⟩
  · have e : wrongN n = true := by simp [wrongN, h1]
    rw [e]
    have g1 : n < 0 := by omega
    clear e h1
    go_enter Try.func76, Try.ntmps76
    go_wp2_with fail
    go_ret
    exact ⟨rfl, rfl⟩
def kindTC (t c : Int) : Int := if t = 205 ∧ c = 3 then 1 else if t = 205 ∧ c = 4 then 2 else if t = 206 ∧ c = 1 then 3 else if t = 206 ∧ c = 4 then 4 else if t = 206 ∧ c = 15 then 5 else 6
theorem kindOf_any (t c : Int) (w : World) : Calls Try.prog 67 #[.int .i64 t, .int .i64 c] w (AnsS (.int .i64 (kindTC t c)) w) := by
  by_cases t1 : t = 205
  · subst t1
    by_cases h3 : c = 3
    · subst h3
      go_enter Try.func67, Try.ntmps67
      go_wp2_with fail
      go_ret
      exact ⟨rfl, rfl⟩
    by_cases h4 : c = 4
    · subst h4
      go_enter Try.func67, Try.ntmps67
      go_wp2_with fail
      go_ret
      exact ⟨rfl, rfl⟩
    have e : kindTC 205 c = 6 := by simp [kindTC, h3, h4]
    rw [e]
    have d3 : (c == 3) = false := by simpa using h3
    have d4 : (c == 4) = false := by simpa using h4
    clear e h3 h4
    go_enter Try.func67, Try.ntmps67
    go_wp2_with fail
    go_ret
    exact ⟨rfl, rfl⟩
  by_cases t2 : t = 206
  · subst t2
    by_cases h1 : c = 1
    · subst h1
      go_enter Try.func67, Try.ntmps67
      go_wp2_with fail
      go_ret
      exact ⟨rfl, rfl⟩
    by_cases h4 : c = 4
    · subst h4
      go_enter Try.func67, Try.ntmps67
      go_wp2_with fail
      go_ret
      exact ⟨rfl, rfl⟩
    by_cases h15 : c = 15
    · subst h15
      go_enter Try.func67, Try.ntmps67
      go_wp2_with fail
      go_ret
      exact ⟨rfl, rfl⟩
    have e : kindTC 206 c = 6 := by simp [kindTC, h1, h4, h15]
    rw [e]
    have d1 : (c == 1) = false := by simpa using h1
    have d4 : (c == 4) = false := by simpa using h4
    have d15 : (c == 15) = false := by simpa using h15
    clear e h1 h4 h15
    go_enter Try.func67, Try.ntmps67
    go_wp2_with fail
    go_ret
    exact ⟨rfl, rfl⟩
  have e : kindTC t c = 6 := by simp [kindTC, t1, t2]
  rw [e]
  have d1 : (t == 205) = false := by simpa using t1
  have d2 : (t == 206) = false := by simpa using t2
  clear e t1 t2
  go_enter Try.func67, Try.ntmps67
  go_wp2_with fail
  go_ret
  exact ⟨rfl, rfl⟩
theorem rtcp_is (A : Option Addr) (n c : Nat) (l : List UInt8) (w : World) (h : R8 w w.heap.size A n c l) : Calls Try.prog 24 #[.slice A n c] w (AnsS (.bool (isB l)) w) := by
  have hl := h.1
  by_cases h2 : 2 ≤ n
  · obtain ⟨b, off, rfl, hb, hc⟩ := h.2.2 (by omega)
    have c1 := hc 1 (by omega)
    have e : isB l = typedB ((l.getD 1 0).toNat : Int) := by
      simp only [isB, typedB, hl, h2, decide_true, Bool.true_and]
      rw [Bool.eq_iff_iff]
      simp only [Bool.and_eq_true, decide_eq_true_eq]
      omega
    rw [e]
    clear hc h e hl
    generalize l.getD 1 0 = x at c1 ⊢
    have g2 : (2 : Int) ≤ (n : Int) := by omega
    have g1 : (1 : Int) < (n : Int) := by omega
    have g0 : 1 < n := by omega
    have hx : (x.toNat : Int) < 256 := by have := x.toNat_lt; omega
    have ht := fun W => typed_any (x.toNat : Int) W
    generalize typedB (x.toNat : Int) = y at ht ⊢
    go_enter Try.func24, Try.ntmps24
    go_wp2_with fail
    ((with_reducible refine (ht _).mono ?_); rintro e w1 ⟨rfl, rfl⟩)
    go_wp2_with fail
    go_ret
    exact ⟨rfl, rfl⟩
  · have e : isB l = false := by simp [isB, hl, h2]
    rw [e]
    clear e
    have g2 : ¬ (2 : Int) ≤ (n : Int) := by omega
    go_enter Try.func24, Try.ntmps24
    go_wp2_with fail
    go_ret
    exact ⟨rfl, rfl⟩
end Go.Proofs.Ytnchgmemajmkjaa
