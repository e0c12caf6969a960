/- What the walks take of package rid and of its book: letters, one rune at a time; a text's places as it is ranged over. -/
import Derived.Test.YtgjncaobcgjefaaReg
import Derived.Test.YtgjncaobcgjefaaBase
import Derived.Test.YtgjncaobcgjefaaRidP
import Derived.Lib.OthersKept
import Derived.Laws.RangeAny
import Derived.Laws.Runes
import Derived.BigCall
namespace Go.Proofs.Ytgjncaobcgjefaa
open Go.RowKit
set_option linter.unusedVariables false
set_option linter.unusedSimpArgs false
set_option maxRecDepth 20000

/-- The call answers v, and nothing that was there has turned. -/
def Ans (v : Value) (w : World) (e : Ending) (w' : World) : Prop := e = .returned v ∧ Below w.heap.size w w'
theorem Ans.holds {v : Value} {w w' : World} {e : Ending} {c : Cl} (hc : c = .val v) (h : Ans v w e w') : ∃ v, e = .returned v ∧ Below w.heap.size w w' ∧ c.holds v w' := by
  subst hc
  exact ⟨_, h.1, h.2, rfl⟩

theorem low_or (r : Nat) : (65 ≤ r ∧ r ≤ 90 ∧ low r = r + 32) ∨ (¬ (65 ≤ r ∧ r ≤ 90) ∧ low r = r) := by
  unfold low
  by_cases h : 65 ≤ r ∧ r ≤ 90
  · exact .inl ⟨h.1, h.2, if_pos h⟩
  · exact .inr ⟨h, if_neg h⟩
theorem ret_bool {a b : Bool} (h : (a = true) ↔ (b = true)) : Ending.returned (Value.bool a) = Ending.returned (Value.bool b) := by
  rw [Bool.eq_iff_iff.2 h]
theorem fit_iff (r : Nat) : fitR r = true ↔ ((97 ≤ r ∧ r ≤ 122) ∨ (65 ≤ r ∧ r ≤ 90) ∨ (48 ≤ r ∧ r ≤ 57) ∨ r = 45 ∨ r = 95) := by simp [fitR]
theorem small_any (r : Nat) (hr : r ≤ 1114111) (w : World) : Calls Try.prog 53 #[.int .i32 (r : Int)] w fun e w' => e = .returned (.int .i32 (low r : Int)) ∧ w' = w := by
  have hl := low_or r
  go_enter Try.func53, Try.ntmps53
  go_wp2
  all_goals
    go_ret
    refine ⟨?_, rfl⟩
    refine congrArg (fun b => Ending.returned (Value.int .i32 b)) ?_
    first | omega | (rw [wrap_small] <;> omega)
theorem fits_any (r : Nat) (hr : r ≤ 1114111) (w : World) : Calls Try.prog 43 #[.int .i32 (r : Int)] w fun e w' => e = .returned (.bool (fitR r)) ∧ w' = w := by
  have hs := fun w => small_any r hr w
  have hl := low_or r
  go_enter Try.func43, Try.ntmps43
  go_wp2_with (go_at_call 53; refine (hs _).mono ?_; rintro e w' ⟨rfl, rfl⟩)
  all_goals
    go_ret
    refine ⟨?_, rfl⟩
    refine ret_bool ?_
    rw [fit_iff]
    simp only [Bool.or_eq_true, Bool.and_eq_true, decide_eq_true_eq, beq_iff_eq, true_iff, false_iff, Bool.false_eq_true]
    omega
theorem letter_any (r : Nat) (hr : r ≤ 1114111) (w : World) : Calls Try.prog 63 #[.int .i32 (r : Int)] w fun e w' => e = .returned (.bool (fitR r)) ∧ w' = w := by
  go_enter Try.func63, Try.ntmps63
  go_wp2
  all_goals
    go_ret
    refine ⟨?_, rfl⟩
    refine ret_bool ?_
    rw [fit_iff]
    simp only [Bool.or_eq_true, Bool.and_eq_true, decide_eq_true_eq, beq_iff_eq, true_iff, false_iff, Bool.false_eq_true]
    omega

/-! ### Ranging over a text -/
/-- Ahead of round k the iterator stands at byte pos. -/
structure At (s : ByteArray) (k pos : Nat) : Prop where
  pos : pos = cutL k s.data.toList
  le : k ≤ cnt s
theorem cutL_succ : ∀ (k : Nat) (l : List UInt8), l.drop (cutL k l) ≠ [] → cutL (k + 1) l = cutL k l + (dL (l.drop (cutL k l))).2
  | 0, l, h => by
    have h' : l ≠ [] := by simpa [cutL] using h
    simp [cutL, h']
  | k + 1, l, h => by
    by_cases hn : l = []
    · simp [hn] at h
    · have e : ∀ j, cutL (j + 1) l = (dL l).2 + cutL j (l.drop (dL l).2) := fun j => by simp only [cutL, if_neg hn]
      rw [e k, ← List.drop_drop] at h
      rw [e (k + 1), e k, ← List.drop_drop, cutL_succ k _ h, Nat.add_assoc]
theorem At.zero (s : ByteArray) : At s 0 0 := ⟨rfl, Nat.zero_le _⟩
theorem size_list (s : ByteArray) : s.data.toList.length = s.size := rfl
theorem At.fits {s : ByteArray} {k pos : Nat} (h : At s k pos) : pos ≤ s.size := by
  rw [h.pos, ← size_list]
  exact cutL_le _ _
theorem At.ne {s : ByteArray} {k pos : Nat} (h : At s k pos) (hp : pos < s.size) : s.data.toList.drop pos ≠ [] := by
  intro e
  have := congrArg List.length e
  rw [List.length_drop, size_list, List.length_nil] at this
  omega
theorem At.rest {s : ByteArray} {k pos : Nat} (h : At s k pos) (hp : pos < s.size) : (rn s.data.toList).drop k = (Utf8.decode s pos).1 :: rn (s.data.toList.drop (pos + (Utf8.decode s pos).2)) := by
  have e := rn_drop k s.data.toList
  rw [← h.pos, rn_step _ (h.ne hp), dL_drop, List.drop_drop] at e
  exact e.symm
theorem At.lt {s : ByteArray} {k pos : Nat} (h : At s k pos) (hp : pos < s.size) : k < cnt s := by
  have e := congrArg List.length (h.rest hp)
  rw [List.length_drop, List.length_cons] at e
  unfold cnt
  omega
theorem At.here {s : ByteArray} {k pos : Nat} (h : At s k pos) (hp : pos < s.size) : (rn s.data.toList).take (k + 1) = (rn s.data.toList).take k ++ [(Utf8.decode s pos).1] := by
  have e := h.rest hp
  have hk : (rn s.data.toList)[k]? = some (Utf8.decode s pos).1 := by
    have := congrArg (fun l => l[0]?) e
    simpa using this
  rw [List.take_add_one, hk]
  rfl
theorem At.mem {s : ByteArray} {k pos : Nat} (h : At s k pos) (hp : pos < s.size) : (Utf8.decode s pos).1 ∈ rn s.data.toList := by
  have e := h.rest hp
  exact List.mem_of_mem_drop (by rw [e]; simp)
theorem At.rune {s : ByteArray} {k pos : Nat} (h : At s k pos) (hp : pos < s.size) : Rn (Utf8.decode s pos).1 := rn_rune _ _ (h.mem hp)
theorem At.big {s : ByteArray} {k pos : Nat} (h : At s k pos) (hp : pos < s.size) : (Utf8.decode s pos).1 ≤ 1114111 := by
  have := h.rune hp
  unfold Rn at this
  omega
theorem At.wide {s : ByteArray} {k pos : Nat} (h : At s k pos) (hp : pos < s.size) : 1 ≤ (Utf8.decode s pos).2 := by
  rw [← dL_drop]
  exact dL_pos _
theorem At.more {s : ByteArray} {k pos : Nat} (h : At s k pos) (hp : pos < s.size) : At s (k + 1) (pos + (Utf8.decode s pos).2) := by
  refine ⟨?_, h.lt hp⟩
  rw [cutL_succ _ _ (by rw [← h.pos]; exact h.ne hp), ← h.pos, dL_drop]
theorem At.done {s : ByteArray} {k pos : Nat} (h : At s k pos) (hp : ¬ pos < s.size) : k = cnt s := by
  have e := rn_drop k s.data.toList
  rw [← h.pos, List.drop_eq_nil_of_le (by rw [size_list]; omega), rn_nil] at e
  have := List.drop_eq_nil_iff.1 e.symm
  have := h.le
  unfold cnt at *
  omega
theorem cnt_le (s : ByteArray) : cnt s ≤ s.size := by
  have := rn_le s.data.toList
  rwa [size_list] at this
end Go.Proofs.Ytgjncaobcgjefaa
