/- Contracts of package rid and of its book: Count, Right, Short, for any texts. -/
import Derived.Test.YtgjncaobcgjefaaRidA
namespace Go.Proofs.Ytgjncaobcgjefaa
open Go.RowKit
set_option linter.unusedVariables false
set_option linter.unusedSimpArgs false
set_option maxRecDepth 20000

theorem iter_below (w : World) (s : ByteArray) (pos : Nat) : Below w.heap.size w (w.iter s pos) := (Below.refl _ w).alloc (Nat.le_refl _) _
theorem ref_count (s : ByteArray) (w : World) (hs : s.size ≤ 4611686018427387904) : Calls Try.prog 64 #[.string s] w (Ans (.int .i64 (cnt s : Int)) w) := by
  have hc := cnt_le s
  go_enter Try.func64, Try.ntmps64
  go_wp2
  go_loopw [3] (fun v wr => ∃ k pos : Nat, v = .int .i64 k ∧ At s k pos ∧ wr = w.iter s pos) (fun _ wr => s.size - wr.iterPos w.heap.size)
  case atStart => exact ⟨0, 0, rfl, At.zero s, rfl⟩
  case round =>
    obtain ⟨k, pos, rfl, hat, rfl⟩ := hrel
    by_cases hp : pos < s.size
    · have hnx : ∀ ty, (Instr.next (.pointer (some ⟨w.heap.size, 0, none⟩)) true ty).run Try.prog (w.iter s pos) = _ := fun ty => run_next_any w s pos ty hp
      have hlt := hat.lt hp
      have hwd := hat.wide hp
      have hmo := hat.more hp
      go_wp2
      go_roundw
      case rel => exact ⟨k + 1, _, by go_num, hmo, rfl⟩
      case measure =>
        simp only [World.iterPos_iter]
        omega
    · have hnx : ∀ ty, (Instr.next (.pointer (some ⟨w.heap.size, 0, none⟩)) true ty).run Try.prog (w.iter s pos) = _ := fun ty => run_next_end w s pos ty hp
      have hk := hat.done hp
      subst hk
      go_wp2
      go_ret
      exact ⟨rfl, iter_below w s pos⟩
/-- All that is looked at fits. -/
theorem take_all {l : List Nat} {k r : Nat} (h : (l.take k).all fitR = true) (e : l.take (k + 1) = l.take k ++ [r]) (hr : fitR r = true) : (l.take (k + 1)).all fitR = true := by
  rw [e, List.all_append, h]
  simp [hr]
theorem not_all {l : List Nat} {r : Nat} (h : r ∈ l) (hr : fitR r = false) : l.all fitR = false := by
  rw [Bool.eq_false_iff]
  intro e
  rw [List.all_eq_true.1 e r h] at hr
  cases hr
theorem right_any (s : ByteArray) (w : World) (hs : s.size ≤ 4611686018427387904) : Calls Try.prog 26 #[.string s] w (Ans (.bool (right s)) w) := by
  have hc := cnt_le s
  go_enter Try.func26, Try.ntmps26
  go_wp2
  go_loopw [3] (fun v wr => ∃ k pos : Nat, v = .int .i64 k ∧ At s k pos ∧ k ≤ 8 ∧ ((rn s.data.toList).take k).all fitR = true ∧ wr = w.iter s pos) (fun _ wr => s.size - wr.iterPos w.heap.size)
  case atStart => exact ⟨0, 0, rfl, At.zero s, by omega, by simp, rfl⟩
  case round =>
    obtain ⟨k, pos, rfl, hat, hk8, hall, rfl⟩ := hrel
    by_cases hp : pos < s.size
    · have hnx : ∀ ty, (Instr.next (.pointer (some ⟨w.heap.size, 0, none⟩)) true ty).run Try.prog (w.iter s pos) = _ := fun ty => run_next_any w s pos ty hp
      have hlt := hat.lt hp
      have hwd := hat.wide hp
      have hmo := hat.more hp
      have hbig := hat.big hp
      have hme := hat.mem hp
      have hhere := hat.here hp
      have hib := iter_below w s (pos + (Utf8.decode s pos).2)
      revert hme hhere hmo hwd hnx hbig hib
      generalize (Utf8.decode s pos).1 = r
      generalize (Utf8.decode s pos).2 = d
      intro hnx hwd hmo hbig hme hhere hib
      by_cases h8 : k + 1 ≤ 8
      · have hf := fun w => fits_any r hbig w
        by_cases hfit : fitR r = true
        · go_wp2_with (go_at_call 43; refine (hf _).mono ?_; rintro e w' ⟨rfl, rfl⟩)
          go_roundw
          case rel => exact ⟨k + 1, _, by go_num, hmo, h8, take_all hall hhere hfit, rfl⟩
          case measure =>
            simp only [World.iterPos_iter]
            omega
        · have hfit' : fitR r = false := by simpa using hfit
          go_wp2_with (go_at_call 43; refine (hf _).mono ?_; rintro e w' ⟨rfl, rfl⟩)
          go_ret
          refine ⟨?_, hib⟩
          rw [right, not_all hme hfit', Bool.and_false, Bool.and_false]
          rfl
      · have h8' : ¬ cnt s ≤ 8 := by omega
        go_wp2_with fail
        go_ret
        refine ⟨?_, hib⟩
        rw [right, decide_eq_false h8', Bool.false_and, Bool.and_false]
        rfl
    · have hnx : ∀ ty, (Instr.next (.pointer (some ⟨w.heap.size, 0, none⟩)) true ty).run Try.prog (w.iter s pos) = _ := fun ty => run_next_end w s pos ty hp
      have hk := hat.done hp
      subst hk
      rw [List.take_of_length_le (by unfold cnt; omega)] at hall
      go_wp2
      go_ret
      refine ⟨?_, iter_below w s pos⟩
      refine ret_bool ?_
      rw [right, hall, decide_eq_true hk8]
      simp only [Bool.and_true, decide_eq_true_eq]
      omega
theorem ref_rid (s : ByteArray) (w : World) (hs : s.size ≤ 4611686018427387904) : Calls Try.prog 57 #[.string s] w (Ans (.bool (right s)) w) := by
  have hc := cnt_le s
  go_enter Try.func57, Try.ntmps57
  go_wp2
  go_loopw [4] (fun _ wr => ∃ k pos : Nat, At s k pos ∧ ((rn s.data.toList).take k).all fitR = true ∧ wr = w.iter s pos) (fun _ wr => s.size - wr.iterPos w.heap.size)
  case atStart => exact ⟨0, 0, At.zero s, by simp, rfl⟩
  case round =>
    obtain ⟨k, pos, hat, hall, rfl⟩ := hrel
    by_cases hp : pos < s.size
    · have hnx : ∀ ty, (Instr.next (.pointer (some ⟨w.heap.size, 0, none⟩)) true ty).run Try.prog (w.iter s pos) = _ := fun ty => run_next_any w s pos ty hp
      have hlt := hat.lt hp
      have hwd := hat.wide hp
      have hmo := hat.more hp
      have hbig := hat.big hp
      have hme := hat.mem hp
      have hhere := hat.here hp
      have hib := iter_below w s (pos + (Utf8.decode s pos).2)
      revert hme hhere hmo hwd hnx hbig hib
      generalize (Utf8.decode s pos).1 = r
      generalize (Utf8.decode s pos).2 = d
      intro hnx hwd hmo hbig hme hhere hib
      have hf := fun w => letter_any r hbig w
      by_cases hfit : fitR r = true
      · go_wp2_with (go_at_call 63; refine (hf _).mono ?_; rintro e w' ⟨rfl, rfl⟩)
        go_roundw
        case rel => exact ⟨k + 1, _, hmo, take_all hall hhere hfit, rfl⟩
        case measure =>
          simp only [World.iterPos_iter]
          omega
      · have hfit' : fitR r = false := by simpa using hfit
        go_wp2_with (go_at_call 63; refine (hf _).mono ?_; rintro e w' ⟨rfl, rfl⟩)
        go_ret
        refine ⟨?_, hib⟩
        rw [right, not_all hme hfit', Bool.and_false, Bool.and_false]
        rfl
    · have hnx : ∀ ty, (Instr.next (.pointer (some ⟨w.heap.size, 0, none⟩)) true ty).run Try.prog (w.iter s pos) = _ := fun ty => run_next_end w s pos ty hp
      have hk := hat.done hp
      subst hk
      rw [List.take_of_length_le (by unfold cnt; omega)] at hall
      have hib := iter_below w s pos
      have hcn := fun w => ref_count s w hs
      by_cases h1 : 1 ≤ cnt s
      · go_wp2_with fail
        refine (hcn _).mono ?_
        rintro e w1 ⟨rfl, b1⟩
        have b1' := hib.trans (b1.mono hib.size)
        go_wp2_with fail
        refine (hcn _).mono ?_
        rintro e w2 ⟨rfl, b2⟩
        have b2' := b1'.trans (b2.mono b1'.size)
        go_wp2_with fail
        go_ret
        refine ⟨?_, b2'⟩
        refine ret_bool ?_
        rw [right, hall, decide_eq_true h1]
        simp only [Bool.and_true, Bool.true_and, decide_eq_true_eq]
        omega
      · go_wp2_with fail
        refine (hcn _).mono ?_
        rintro e w1 ⟨rfl, b1⟩
        have b1' := hib.trans (b1.mono hib.size)
        go_wp2_with fail
        go_ret
        refine ⟨?_, b1'⟩
        rw [right, decide_eq_false h1, Bool.false_and]
        rfl
end Go.Proofs.Ytgjncaobcgjefaa
