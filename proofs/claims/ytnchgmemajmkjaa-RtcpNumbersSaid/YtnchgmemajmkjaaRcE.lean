/- Contracts: limelightref6.empty. -/
import Derived.Test.YtnchgmemajmkjaaRcM
import Derived.Test.YtnchgmemajmkjaaRatR
namespace Go.Proofs.Ytnchgmemajmkjaa
open Go.RowKit
set_option linter.unusedVariables false
set_option linter.unusedSimpArgs false
set_option maxRecDepth 20000

/-- The fields that a kind has not, by numbers alone. -/
def bareN (kind : Int) (src about nt na nn rate : Nat) (ty count : Int) (nb : Nat) : Bool :=
  !(decide (kind = 6) && decide (src ≠ 0)) && (!(decide (kind ≠ 3) && decide (about ≠ 0)) && (!(decide (kind ≠ 1) && (decide (kind ≠ 2) && decide (0 < nt))) &&
  (!(decide (kind ≠ 4) && (decide (kind ≠ 5) && decide (0 < na))) && (!(decide (kind ≠ 4) && decide (0 < nn)) && (!(decide (kind ≠ 5) && decide (rate ≠ 0)) &&
  (decide (kind = 6) || (decide (ty = 0) && (decide (count = 0) && decide (nb = 0)))))))))
theorem Rep.bare_eq (r : Rep) : r.bare = bareN r.kind r.src r.about r.tups.length r.abouts.length r.nums.length r.rate r.ty r.count r.body.length := rfl
set_option maxHeartbeats 4000000 in
theorem empty_1 (src about nt na nn rate nb : Nat) (ty count : Int) (At Aa An Ab : Option Addr) (ct ca cn cb : Nat) (w : World) :
    Calls Try.prog 52 #[.agg #[.int .i64 1, .int .u32 (src : Int), .int .u32 (about : Int), .slice At nt ct, .slice Aa na ca, .slice An nn cn, .int .u64 (rate : Int), .int .i64 ty, .int .i64 count, .slice Ab nb cb]] w (AnsW (.bool (bareN 1 src about nt na nn rate ty count nb)) w) := by
  by_cases hc : about = 0
  rotate_left
  · skip
    have hb : Below w.heap.size w (w.alloc (.cells #[.int .i64 1, .int .u32 (src : Int), .int .u32 (about : Int), .slice At nt ct, .slice Aa na ca, .slice An nn cn, .int .u64 (rate : Int), .int .i64 ty, .int .i64 count, .slice Ab nb cb] 33)) := (Below.refl _ w).alloc (Nat.le_refl _) _
    have e : bareN 1 src about nt na nn rate ty count nb = false := by simp [bareN, hc]
    rw [e]
    clear e
    have d : ((about : Int) != 0) = true := by simp; omega
    clear hc
    go_enter Try.func52, Try.ntmps52
    go_wp2_with fail
    go_ret
    exact ⟨rfl, hb⟩
  subst hc
  by_cases hc : na = 0
  rotate_left
  · have hc' : 0 < na := by omega
    have hb : Below w.heap.size w (w.alloc (.cells #[.int .i64 1, .int .u32 (src : Int), .int .u32 0, .slice At nt ct, .slice Aa na ca, .slice An nn cn, .int .u64 (rate : Int), .int .i64 ty, .int .i64 count, .slice Ab nb cb] 33)) := (Below.refl _ w).alloc (Nat.le_refl _) _
    have e : bareN 1 src 0 nt na nn rate ty count nb = false := by simp [bareN, hc']
    rw [e]
    clear e
    have d : (0 : Int) < (na : Int) := by omega
    have d' : 0 < na := by omega
    clear hc
    go_enter Try.func52, Try.ntmps52
    go_wp2_with fail
    go_ret
    exact ⟨rfl, hb⟩
  subst hc
  by_cases hc : nn = 0
  rotate_left
  · have hc' : 0 < nn := by omega
    have hb : Below w.heap.size w (w.alloc (.cells #[.int .i64 1, .int .u32 (src : Int), .int .u32 0, .slice At nt ct, .slice Aa 0 ca, .slice An nn cn, .int .u64 (rate : Int), .int .i64 ty, .int .i64 count, .slice Ab nb cb] 33)) := (Below.refl _ w).alloc (Nat.le_refl _) _
    have e : bareN 1 src 0 nt 0 nn rate ty count nb = false := by simp [bareN, hc']
    rw [e]
    clear e
    have d : (0 : Int) < (nn : Int) := by omega
    have d' : 0 < nn := by omega
    clear hc
    go_enter Try.func52, Try.ntmps52
    go_wp2_with fail
    go_ret
    exact ⟨rfl, hb⟩
  subst hc
  by_cases hc : rate = 0
  rotate_left
  · skip
    have hb : Below w.heap.size w (w.alloc (.cells #[.int .i64 1, .int .u32 (src : Int), .int .u32 0, .slice At nt ct, .slice Aa 0 ca, .slice An 0 cn, .int .u64 (rate : Int), .int .i64 ty, .int .i64 count, .slice Ab nb cb] 33)) := (Below.refl _ w).alloc (Nat.le_refl _) _
    have e : bareN 1 src 0 nt 0 0 rate ty count nb = false := by simp [bareN, hc]
    rw [e]
    clear e
    have d : ((rate : Int) != 0) = true := by simp; omega
    clear hc
    go_enter Try.func52, Try.ntmps52
    go_wp2_with fail
    go_ret
    exact ⟨rfl, hb⟩
  subst hc
  by_cases hc : ty = 0
  rotate_left
  · skip
    have hb : Below w.heap.size w (w.alloc (.cells #[.int .i64 1, .int .u32 (src : Int), .int .u32 0, .slice At nt ct, .slice Aa 0 ca, .slice An 0 cn, .int .u64 0, .int .i64 ty, .int .i64 count, .slice Ab nb cb] 33)) := (Below.refl _ w).alloc (Nat.le_refl _) _
    have e : bareN 1 src 0 nt 0 0 0 ty count nb = false := by simp [bareN, hc]
    rw [e]
    clear e
    have d : (ty == 0) = false := by simpa using hc
    clear hc
    go_enter Try.func52, Try.ntmps52
    go_wp2_with fail
    go_ret
    exact ⟨rfl, hb⟩
  subst hc
  by_cases hc : count = 0
  rotate_left
  · skip
    have hb : Below w.heap.size w (w.alloc (.cells #[.int .i64 1, .int .u32 (src : Int), .int .u32 0, .slice At nt ct, .slice Aa 0 ca, .slice An 0 cn, .int .u64 0, .int .i64 0, .int .i64 count, .slice Ab nb cb] 33)) := (Below.refl _ w).alloc (Nat.le_refl _) _
    have e : bareN 1 src 0 nt 0 0 0 0 count nb = false := by simp [bareN, hc]
    rw [e]
    clear e
    have d : (count == 0) = false := by simpa using hc
    clear hc
    go_enter Try.func52, Try.ntmps52
    go_wp2_with fail
    go_ret
    exact ⟨rfl, hb⟩
  subst hc
  by_cases hc : nb = 0
  rotate_left
  · skip
    have hb : Below w.heap.size w (w.alloc (.cells #[.int .i64 1, .int .u32 (src : Int), .int .u32 0, .slice At nt ct, .slice Aa 0 ca, .slice An 0 cn, .int .u64 0, .int .i64 0, .int .i64 0, .slice Ab nb cb] 33)) := (Below.refl _ w).alloc (Nat.le_refl _) _
    have e : bareN 1 src 0 nt 0 0 0 0 0 nb = false := by simp [bareN, hc]
    rw [e]
    clear e
    have d : ((nb : Int) == 0) = false := by simp; omega
    clear hc
    go_enter Try.func52, Try.ntmps52
    go_wp2_with fail
    go_ret
    exact ⟨rfl, hb⟩
  subst hc
  have hb : Below w.heap.size w (w.alloc (.cells #[.int .i64 1, .int .u32 (src : Int), .int .u32 0, .slice At nt ct, .slice Aa 0 ca, .slice An 0 cn, .int .u64 0, .int .i64 0, .int .i64 0, .slice Ab 0 cb] 33)) := (Below.refl _ w).alloc (Nat.le_refl _) _
  have e : bareN 1 src 0 nt 0 0 0 0 0 0 = true := by simp [bareN]
  rw [e]
  clear e
  go_enter Try.func52, Try.ntmps52
  go_wp2_with fail
  go_ret
  exact ⟨rfl, hb⟩
set_option maxHeartbeats 4000000 in
theorem empty_2 (src about nt na nn rate nb : Nat) (ty count : Int) (At Aa An Ab : Option Addr) (ct ca cn cb : Nat) (w : World) :
    Calls Try.prog 52 #[.agg #[.int .i64 2, .int .u32 (src : Int), .int .u32 (about : Int), .slice At nt ct, .slice Aa na ca, .slice An nn cn, .int .u64 (rate : Int), .int .i64 ty, .int .i64 count, .slice Ab nb cb]] w (AnsW (.bool (bareN 2 src about nt na nn rate ty count nb)) w) := by
  by_cases hc : about = 0
  rotate_left
  · skip
    have hb : Below w.heap.size w (w.alloc (.cells #[.int .i64 2, .int .u32 (src : Int), .int .u32 (about : Int), .slice At nt ct, .slice Aa na ca, .slice An nn cn, .int .u64 (rate : Int), .int .i64 ty, .int .i64 count, .slice Ab nb cb] 33)) := (Below.refl _ w).alloc (Nat.le_refl _) _
    have e : bareN 2 src about nt na nn rate ty count nb = false := by simp [bareN, hc]
    rw [e]
    clear e
    have d : ((about : Int) != 0) = true := by simp; omega
    clear hc
    go_enter Try.func52, Try.ntmps52
    go_wp2_with fail
    go_ret
    exact ⟨rfl, hb⟩
  subst hc
  by_cases hc : na = 0
  rotate_left
  · have hc' : 0 < na := by omega
    have hb : Below w.heap.size w (w.alloc (.cells #[.int .i64 2, .int .u32 (src : Int), .int .u32 0, .slice At nt ct, .slice Aa na ca, .slice An nn cn, .int .u64 (rate : Int), .int .i64 ty, .int .i64 count, .slice Ab nb cb] 33)) := (Below.refl _ w).alloc (Nat.le_refl _) _
    have e : bareN 2 src 0 nt na nn rate ty count nb = false := by simp [bareN, hc']
    rw [e]
    clear e
    have d : (0 : Int) < (na : Int) := by omega
    have d' : 0 < na := by omega
    clear hc
    go_enter Try.func52, Try.ntmps52
    go_wp2_with fail
    go_ret
    exact ⟨rfl, hb⟩
  subst hc
  by_cases hc : nn = 0
  rotate_left
  · have hc' : 0 < nn := by omega
    have hb : Below w.heap.size w (w.alloc (.cells #[.int .i64 2, .int .u32 (src : Int), .int .u32 0, .slice At nt ct, .slice Aa 0 ca, .slice An nn cn, .int .u64 (rate : Int), .int .i64 ty, .int .i64 count, .slice Ab nb cb] 33)) := (Below.refl _ w).alloc (Nat.le_refl _) _
    have e : bareN 2 src 0 nt 0 nn rate ty count nb = false := by simp [bareN, hc']
    rw [e]
    clear e
    have d : (0 : Int) < (nn : Int) := by omega
    have d' : 0 < nn := by omega
    clear hc
    go_enter Try.func52, Try.ntmps52
    go_wp2_with fail
    go_ret
    exact ⟨rfl, hb⟩
  subst hc
  by_cases hc : rate = 0
  rotate_left
  · skip
    have hb : Below w.heap.size w (w.alloc (.cells #[.int .i64 2, .int .u32 (src : Int), .int .u32 0, .slice At nt ct, .slice Aa 0 ca, .slice An 0 cn, .int .u64 (rate : Int), .int .i64 ty, .int .i64 count, .slice Ab nb cb] 33)) := (Below.refl _ w).alloc (Nat.le_refl _) _
    have e : bareN 2 src 0 nt 0 0 rate ty count nb = false := by simp [bareN, hc]
    rw [e]
    clear e
    have d : ((rate : Int) != 0) = true := by simp; omega
    clear hc
    go_enter Try.func52, Try.ntmps52
    go_wp2_with fail
    go_ret
    exact ⟨rfl, hb⟩
  subst hc
  by_cases hc : ty = 0
  rotate_left
  · skip
    have hb : Below w.heap.size w (w.alloc (.cells #[.int .i64 2, .int .u32 (src : Int), .int .u32 0, .slice At nt ct, .slice Aa 0 ca, .slice An 0 cn, .int .u64 0, .int .i64 ty, .int .i64 count, .slice Ab nb cb] 33)) := (Below.refl _ w).alloc (Nat.le_refl _) _
    have e : bareN 2 src 0 nt 0 0 0 ty count nb = false := by simp [bareN, hc]
    rw [e]
    clear e
    have d : (ty == 0) = false := by simpa using hc
    clear hc
    go_enter Try.func52, Try.ntmps52
    go_wp2_with fail
    go_ret
    exact ⟨rfl, hb⟩
  subst hc
  by_cases hc : count = 0
  rotate_left
  · skip
    have hb : Below w.heap.size w (w.alloc (.cells #[.int .i64 2, .int .u32 (src : Int), .int .u32 0, .slice At nt ct, .slice Aa 0 ca, .slice An 0 cn, .int .u64 0, .int .i64 0, .int .i64 count, .slice Ab nb cb] 33)) := (Below.refl _ w).alloc (Nat.le_refl _) _
    have e : bareN 2 src 0 nt 0 0 0 0 count nb = false := by simp [bareN, hc]
    rw [e]
    clear e
    have d : (count == 0) = false := by simpa using hc
    clear hc
    go_enter Try.func52, Try.ntmps52
    go_wp2_with fail
    go_ret
    exact ⟨rfl, hb⟩
  subst hc
  by_cases hc : nb = 0
  rotate_left
  · skip
    have hb : Below w.heap.size w (w.alloc (.cells #[.int .i64 2, .int .u32 (src : Int), .int .u32 0, .slice At nt ct, .slice Aa 0 ca, .slice An 0 cn, .int .u64 0, .int .i64 0, .int .i64 0, .slice Ab nb cb] 33)) := (Below.refl _ w).alloc (Nat.le_refl _) _
    have e : bareN 2 src 0 nt 0 0 0 0 0 nb = false := by simp [bareN, hc]
    rw [e]
    clear e
    have d : ((nb : Int) == 0) = false := by simp; omega
    clear hc
    go_enter Try.func52, Try.ntmps52
    go_wp2_with fail
    go_ret
    exact ⟨rfl, hb⟩
  subst hc
  have hb : Below w.heap.size w (w.alloc (.cells #[.int .i64 2, .int .u32 (src : Int), .int .u32 0, .slice At nt ct, .slice Aa 0 ca, .slice An 0 cn, .int .u64 0, .int .i64 0, .int .i64 0, .slice Ab 0 cb] 33)) := (Below.refl _ w).alloc (Nat.le_refl _) _
  have e : bareN 2 src 0 nt 0 0 0 0 0 0 = true := by simp [bareN]
  rw [e]
  clear e
  go_enter Try.func52, Try.ntmps52
  go_wp2_with fail
  go_ret
  exact ⟨rfl, hb⟩
set_option maxHeartbeats 4000000 in
theorem empty_3 (src about nt na nn rate nb : Nat) (ty count : Int) (At Aa An Ab : Option Addr) (ct ca cn cb : Nat) (w : World) :
    Calls Try.prog 52 #[.agg #[.int .i64 3, .int .u32 (src : Int), .int .u32 (about : Int), .slice At nt ct, .slice Aa na ca, .slice An nn cn, .int .u64 (rate : Int), .int .i64 ty, .int .i64 count, .slice Ab nb cb]] w (AnsW (.bool (bareN 3 src about nt na nn rate ty count nb)) w) := by
  by_cases hc : nt = 0
  rotate_left
  · have hc' : 0 < nt := by omega
    have hb : Below w.heap.size w (w.alloc (.cells #[.int .i64 3, .int .u32 (src : Int), .int .u32 (about : Int), .slice At nt ct, .slice Aa na ca, .slice An nn cn, .int .u64 (rate : Int), .int .i64 ty, .int .i64 count, .slice Ab nb cb] 33)) := (Below.refl _ w).alloc (Nat.le_refl _) _
    have e : bareN 3 src about nt na nn rate ty count nb = false := by simp [bareN, hc']
    rw [e]
    clear e
    have d : (0 : Int) < (nt : Int) := by omega
    have d' : 0 < nt := by omega
    clear hc
    go_enter Try.func52, Try.ntmps52
    go_wp2_with fail
    go_ret
    exact ⟨rfl, hb⟩
  subst hc
  by_cases hc : na = 0
  rotate_left
  · have hc' : 0 < na := by omega
    have hb : Below w.heap.size w (w.alloc (.cells #[.int .i64 3, .int .u32 (src : Int), .int .u32 (about : Int), .slice At 0 ct, .slice Aa na ca, .slice An nn cn, .int .u64 (rate : Int), .int .i64 ty, .int .i64 count, .slice Ab nb cb] 33)) := (Below.refl _ w).alloc (Nat.le_refl _) _
    have e : bareN 3 src about 0 na nn rate ty count nb = false := by simp [bareN, hc']
    rw [e]
    clear e
    have d : (0 : Int) < (na : Int) := by omega
    have d' : 0 < na := by omega
    clear hc
    go_enter Try.func52, Try.ntmps52
    go_wp2_with fail
    go_ret
    exact ⟨rfl, hb⟩
  subst hc
  by_cases hc : nn = 0
  rotate_left
  · have hc' : 0 < nn := by omega
    have hb : Below w.heap.size w (w.alloc (.cells #[.int .i64 3, .int .u32 (src : Int), .int .u32 (about : Int), .slice At 0 ct, .slice Aa 0 ca, .slice An nn cn, .int .u64 (rate : Int), .int .i64 ty, .int .i64 count, .slice Ab nb cb] 33)) := (Below.refl _ w).alloc (Nat.le_refl _) _
    have e : bareN 3 src about 0 0 nn rate ty count nb = false := by simp [bareN, hc']
    rw [e]
    clear e
    have d : (0 : Int) < (nn : Int) := by omega
    have d' : 0 < nn := by omega
    clear hc
    go_enter Try.func52, Try.ntmps52
    go_wp2_with fail
    go_ret
    exact ⟨rfl, hb⟩
  subst hc
  by_cases hc : rate = 0
  rotate_left
  · skip
    have hb : Below w.heap.size w (w.alloc (.cells #[.int .i64 3, .int .u32 (src : Int), .int .u32 (about : Int), .slice At 0 ct, .slice Aa 0 ca, .slice An 0 cn, .int .u64 (rate : Int), .int .i64 ty, .int .i64 count, .slice Ab nb cb] 33)) := (Below.refl _ w).alloc (Nat.le_refl _) _
    have e : bareN 3 src about 0 0 0 rate ty count nb = false := by simp [bareN, hc]
    rw [e]
    clear e
    have d : ((rate : Int) != 0) = true := by simp; omega
    clear hc
    go_enter Try.func52, Try.ntmps52
    go_wp2_with fail
    go_ret
    exact ⟨rfl, hb⟩
  subst hc
  by_cases hc : ty = 0
  rotate_left
  · skip
    have hb : Below w.heap.size w (w.alloc (.cells #[.int .i64 3, .int .u32 (src : Int), .int .u32 (about : Int), .slice At 0 ct, .slice Aa 0 ca, .slice An 0 cn, .int .u64 0, .int .i64 ty, .int .i64 count, .slice Ab nb cb] 33)) := (Below.refl _ w).alloc (Nat.le_refl _) _
    have e : bareN 3 src about 0 0 0 0 ty count nb = false := by simp [bareN, hc]
    rw [e]
    clear e
    have d : (ty == 0) = false := by simpa using hc
    clear hc
    go_enter Try.func52, Try.ntmps52
    go_wp2_with fail
    go_ret
    exact ⟨rfl, hb⟩
  subst hc
  by_cases hc : count = 0
  rotate_left
  · skip
    have hb : Below w.heap.size w (w.alloc (.cells #[.int .i64 3, .int .u32 (src : Int), .int .u32 (about : Int), .slice At 0 ct, .slice Aa 0 ca, .slice An 0 cn, .int .u64 0, .int .i64 0, .int .i64 count, .slice Ab nb cb] 33)) := (Below.refl _ w).alloc (Nat.le_refl _) _
    have e : bareN 3 src about 0 0 0 0 0 count nb = false := by simp [bareN, hc]
    rw [e]
    clear e
    have d : (count == 0) = false := by simpa using hc
    clear hc
    go_enter Try.func52, Try.ntmps52
    go_wp2_with fail
    go_ret
    exact ⟨rfl, hb⟩
  subst hc
  by_cases hc : nb = 0
  rotate_left
  · skip
    have hb : Below w.heap.size w (w.alloc (.cells #[.int .i64 3, .int .u32 (src : Int), .int .u32 (about : Int), .slice At 0 ct, .slice Aa 0 ca, .slice An 0 cn, .int .u64 0, .int .i64 0, .int .i64 0, .slice Ab nb cb] 33)) := (Below.refl _ w).alloc (Nat.le_refl _) _
    have e : bareN 3 src about 0 0 0 0 0 0 nb = false := by simp [bareN, hc]
    rw [e]
    clear e
    have d : ((nb : Int) == 0) = false := by simp; omega
    clear hc
    go_enter Try.func52, Try.ntmps52
    go_wp2_with fail
    go_ret
    exact ⟨rfl, hb⟩
  subst hc
  have hb : Below w.heap.size w (w.alloc (.cells #[.int .i64 3, .int .u32 (src : Int), .int .u32 (about : Int), .slice At 0 ct, .slice Aa 0 ca, .slice An 0 cn, .int .u64 0, .int .i64 0, .int .i64 0, .slice Ab 0 cb] 33)) := (Below.refl _ w).alloc (Nat.le_refl _) _
  have e : bareN 3 src about 0 0 0 0 0 0 0 = true := by simp [bareN]
  rw [e]
  clear e
  go_enter Try.func52, Try.ntmps52
  go_wp2_with fail
  go_ret
  exact ⟨rfl, hb⟩
set_option maxHeartbeats 4000000 in
theorem empty_4 (src about nt na nn rate nb : Nat) (ty count : Int) (At Aa An Ab : Option Addr) (ct ca cn cb : Nat) (w : World) :
    Calls Try.prog 52 #[.agg #[.int .i64 4, .int .u32 (src : Int), .int .u32 (about : Int), .slice At nt ct, .slice Aa na ca, .slice An nn cn, .int .u64 (rate : Int), .int .i64 ty, .int .i64 count, .slice Ab nb cb]] w (AnsW (.bool (bareN 4 src about nt na nn rate ty count nb)) w) := by
  by_cases hc : about = 0
  rotate_left
  · skip
    have hb : Below w.heap.size w (w.alloc (.cells #[.int .i64 4, .int .u32 (src : Int), .int .u32 (about : Int), .slice At nt ct, .slice Aa na ca, .slice An nn cn, .int .u64 (rate : Int), .int .i64 ty, .int .i64 count, .slice Ab nb cb] 33)) := (Below.refl _ w).alloc (Nat.le_refl _) _
    have e : bareN 4 src about nt na nn rate ty count nb = false := by simp [bareN, hc]
    rw [e]
    clear e
    have d : ((about : Int) != 0) = true := by simp; omega
    clear hc
    go_enter Try.func52, Try.ntmps52
    go_wp2_with fail
    go_ret
    exact ⟨rfl, hb⟩
  subst hc
  by_cases hc : nt = 0
  rotate_left
  · have hc' : 0 < nt := by omega
    have hb : Below w.heap.size w (w.alloc (.cells #[.int .i64 4, .int .u32 (src : Int), .int .u32 0, .slice At nt ct, .slice Aa na ca, .slice An nn cn, .int .u64 (rate : Int), .int .i64 ty, .int .i64 count, .slice Ab nb cb] 33)) := (Below.refl _ w).alloc (Nat.le_refl _) _
    have e : bareN 4 src 0 nt na nn rate ty count nb = false := by simp [bareN, hc']
    rw [e]
    clear e
    have d : (0 : Int) < (nt : Int) := by omega
    have d' : 0 < nt := by omega
    clear hc
    go_enter Try.func52, Try.ntmps52
    go_wp2_with fail
    go_ret
    exact ⟨rfl, hb⟩
  subst hc
  by_cases hc : rate = 0
  rotate_left
  · skip
    have hb : Below w.heap.size w (w.alloc (.cells #[.int .i64 4, .int .u32 (src : Int), .int .u32 0, .slice At 0 ct, .slice Aa na ca, .slice An nn cn, .int .u64 (rate : Int), .int .i64 ty, .int .i64 count, .slice Ab nb cb] 33)) := (Below.refl _ w).alloc (Nat.le_refl _) _
    have e : bareN 4 src 0 0 na nn rate ty count nb = false := by simp [bareN, hc]
    rw [e]
    clear e
    have d : ((rate : Int) != 0) = true := by simp; omega
    clear hc
    go_enter Try.func52, Try.ntmps52
    go_wp2_with fail
    go_ret
    exact ⟨rfl, hb⟩
  subst hc
  by_cases hc : ty = 0
  rotate_left
  · skip
    have hb : Below w.heap.size w (w.alloc (.cells #[.int .i64 4, .int .u32 (src : Int), .int .u32 0, .slice At 0 ct, .slice Aa na ca, .slice An nn cn, .int .u64 0, .int .i64 ty, .int .i64 count, .slice Ab nb cb] 33)) := (Below.refl _ w).alloc (Nat.le_refl _) _
    have e : bareN 4 src 0 0 na nn 0 ty count nb = false := by simp [bareN, hc]
    rw [e]
    clear e
    have d : (ty == 0) = false := by simpa using hc
    clear hc
    go_enter Try.func52, Try.ntmps52
    go_wp2_with fail
    go_ret
    exact ⟨rfl, hb⟩
  subst hc
  by_cases hc : count = 0
  rotate_left
  · skip
    have hb : Below w.heap.size w (w.alloc (.cells #[.int .i64 4, .int .u32 (src : Int), .int .u32 0, .slice At 0 ct, .slice Aa na ca, .slice An nn cn, .int .u64 0, .int .i64 0, .int .i64 count, .slice Ab nb cb] 33)) := (Below.refl _ w).alloc (Nat.le_refl _) _
    have e : bareN 4 src 0 0 na nn 0 0 count nb = false := by simp [bareN, hc]
    rw [e]
    clear e
    have d : (count == 0) = false := by simpa using hc
    clear hc
    go_enter Try.func52, Try.ntmps52
    go_wp2_with fail
    go_ret
    exact ⟨rfl, hb⟩
  subst hc
  by_cases hc : nb = 0
  rotate_left
  · skip
    have hb : Below w.heap.size w (w.alloc (.cells #[.int .i64 4, .int .u32 (src : Int), .int .u32 0, .slice At 0 ct, .slice Aa na ca, .slice An nn cn, .int .u64 0, .int .i64 0, .int .i64 0, .slice Ab nb cb] 33)) := (Below.refl _ w).alloc (Nat.le_refl _) _
    have e : bareN 4 src 0 0 na nn 0 0 0 nb = false := by simp [bareN, hc]
    rw [e]
    clear e
    have d : ((nb : Int) == 0) = false := by simp; omega
    clear hc
    go_enter Try.func52, Try.ntmps52
    go_wp2_with fail
    go_ret
    exact ⟨rfl, hb⟩
  subst hc
  have hb : Below w.heap.size w (w.alloc (.cells #[.int .i64 4, .int .u32 (src : Int), .int .u32 0, .slice At 0 ct, .slice Aa na ca, .slice An nn cn, .int .u64 0, .int .i64 0, .int .i64 0, .slice Ab 0 cb] 33)) := (Below.refl _ w).alloc (Nat.le_refl _) _
  have e : bareN 4 src 0 0 na nn 0 0 0 0 = true := by simp [bareN]
  rw [e]
  clear e
  go_enter Try.func52, Try.ntmps52
  go_wp2_with fail
  go_ret
  exact ⟨rfl, hb⟩
set_option maxHeartbeats 4000000 in
theorem empty_5 (src about nt na nn rate nb : Nat) (ty count : Int) (At Aa An Ab : Option Addr) (ct ca cn cb : Nat) (w : World) :
    Calls Try.prog 52 #[.agg #[.int .i64 5, .int .u32 (src : Int), .int .u32 (about : Int), .slice At nt ct, .slice Aa na ca, .slice An nn cn, .int .u64 (rate : Int), .int .i64 ty, .int .i64 count, .slice Ab nb cb]] w (AnsW (.bool (bareN 5 src about nt na nn rate ty count nb)) w) := by
  by_cases hc : about = 0
  rotate_left
  · skip
    have hb : Below w.heap.size w (w.alloc (.cells #[.int .i64 5, .int .u32 (src : Int), .int .u32 (about : Int), .slice At nt ct, .slice Aa na ca, .slice An nn cn, .int .u64 (rate : Int), .int .i64 ty, .int .i64 count, .slice Ab nb cb] 33)) := (Below.refl _ w).alloc (Nat.le_refl _) _
    have e : bareN 5 src about nt na nn rate ty count nb = false := by simp [bareN, hc]
    rw [e]
    clear e
    have d : ((about : Int) != 0) = true := by simp; omega
    clear hc
    go_enter Try.func52, Try.ntmps52
    go_wp2_with fail
    go_ret
    exact ⟨rfl, hb⟩
  subst hc
  by_cases hc : nt = 0
  rotate_left
  · have hc' : 0 < nt := by omega
    have hb : Below w.heap.size w (w.alloc (.cells #[.int .i64 5, .int .u32 (src : Int), .int .u32 0, .slice At nt ct, .slice Aa na ca, .slice An nn cn, .int .u64 (rate : Int), .int .i64 ty, .int .i64 count, .slice Ab nb cb] 33)) := (Below.refl _ w).alloc (Nat.le_refl _) _
    have e : bareN 5 src 0 nt na nn rate ty count nb = false := by simp [bareN, hc']
    rw [e]
    clear e
    have d : (0 : Int) < (nt : Int) := by omega
    have d' : 0 < nt := by omega
    clear hc
    go_enter Try.func52, Try.ntmps52
    go_wp2_with fail
    go_ret
    exact ⟨rfl, hb⟩
  subst hc
  by_cases hc : nn = 0
  rotate_left
  · have hc' : 0 < nn := by omega
    have hb : Below w.heap.size w (w.alloc (.cells #[.int .i64 5, .int .u32 (src : Int), .int .u32 0, .slice At 0 ct, .slice Aa na ca, .slice An nn cn, .int .u64 (rate : Int), .int .i64 ty, .int .i64 count, .slice Ab nb cb] 33)) := (Below.refl _ w).alloc (Nat.le_refl _) _
    have e : bareN 5 src 0 0 na nn rate ty count nb = false := by simp [bareN, hc']
    rw [e]
    clear e
    have d : (0 : Int) < (nn : Int) := by omega
    have d' : 0 < nn := by omega
    clear hc
    go_enter Try.func52, Try.ntmps52
    go_wp2_with fail
    go_ret
    exact ⟨rfl, hb⟩
  subst hc
  by_cases hc : ty = 0
  rotate_left
  · skip
    have hb : Below w.heap.size w (w.alloc (.cells #[.int .i64 5, .int .u32 (src : Int), .int .u32 0, .slice At 0 ct, .slice Aa na ca, .slice An 0 cn, .int .u64 (rate : Int), .int .i64 ty, .int .i64 count, .slice Ab nb cb] 33)) := (Below.refl _ w).alloc (Nat.le_refl _) _
    have e : bareN 5 src 0 0 na 0 rate ty count nb = false := by simp [bareN, hc]
    rw [e]
    clear e
    have d : (ty == 0) = false := by simpa using hc
    clear hc
    go_enter Try.func52, Try.ntmps52
    go_wp2_with fail
    go_ret
    exact ⟨rfl, hb⟩
  subst hc
  by_cases hc : count = 0
  rotate_left
  · skip
    have hb : Below w.heap.size w (w.alloc (.cells #[.int .i64 5, .int .u32 (src : Int), .int .u32 0, .slice At 0 ct, .slice Aa na ca, .slice An 0 cn, .int .u64 (rate : Int), .int .i64 0, .int .i64 count, .slice Ab nb cb] 33)) := (Below.refl _ w).alloc (Nat.le_refl _) _
    have e : bareN 5 src 0 0 na 0 rate 0 count nb = false := by simp [bareN, hc]
    rw [e]
    clear e
    have d : (count == 0) = false := by simpa using hc
    clear hc
    go_enter Try.func52, Try.ntmps52
    go_wp2_with fail
    go_ret
    exact ⟨rfl, hb⟩
  subst hc
  by_cases hc : nb = 0
  rotate_left
  · skip
    have hb : Below w.heap.size w (w.alloc (.cells #[.int .i64 5, .int .u32 (src : Int), .int .u32 0, .slice At 0 ct, .slice Aa na ca, .slice An 0 cn, .int .u64 (rate : Int), .int .i64 0, .int .i64 0, .slice Ab nb cb] 33)) := (Below.refl _ w).alloc (Nat.le_refl _) _
    have e : bareN 5 src 0 0 na 0 rate 0 0 nb = false := by simp [bareN, hc]
    rw [e]
    clear e
    have d : ((nb : Int) == 0) = false := by simp; omega
    clear hc
    go_enter Try.func52, Try.ntmps52
    go_wp2_with fail
    go_ret
    exact ⟨rfl, hb⟩
  subst hc
  have hb : Below w.heap.size w (w.alloc (.cells #[.int .i64 5, .int .u32 (src : Int), .int .u32 0, .slice At 0 ct, .slice Aa na ca, .slice An 0 cn, .int .u64 (rate : Int), .int .i64 0, .int .i64 0, .slice Ab 0 cb] 33)) := (Below.refl _ w).alloc (Nat.le_refl _) _
  have e : bareN 5 src 0 0 na 0 rate 0 0 0 = true := by simp [bareN]
  rw [e]
  clear e
  go_enter Try.func52, Try.ntmps52
  go_wp2_with fail
  go_ret
  exact ⟨rfl, hb⟩
set_option maxHeartbeats 4000000 in
theorem empty_6 (src about nt na nn rate nb : Nat) (ty count : Int) (At Aa An Ab : Option Addr) (ct ca cn cb : Nat) (w : World) :
    Calls Try.prog 52 #[.agg #[.int .i64 6, .int .u32 (src : Int), .int .u32 (about : Int), .slice At nt ct, .slice Aa na ca, .slice An nn cn, .int .u64 (rate : Int), .int .i64 ty, .int .i64 count, .slice Ab nb cb]] w (AnsW (.bool (bareN 6 src about nt na nn rate ty count nb)) w) := by
  by_cases hc : src = 0
  rotate_left
  · skip
    have hb : Below w.heap.size w (w.alloc (.cells #[.int .i64 6, .int .u32 (src : Int), .int .u32 (about : Int), .slice At nt ct, .slice Aa na ca, .slice An nn cn, .int .u64 (rate : Int), .int .i64 ty, .int .i64 count, .slice Ab nb cb] 33)) := (Below.refl _ w).alloc (Nat.le_refl _) _
    have e : bareN 6 src about nt na nn rate ty count nb = false := by simp [bareN, hc]
    rw [e]
    clear e
    have d : ((src : Int) != 0) = true := by simp; omega
    clear hc
    go_enter Try.func52, Try.ntmps52
    go_wp2_with fail
    go_ret
    exact ⟨rfl, hb⟩
  subst hc
  by_cases hc : about = 0
  rotate_left
  · skip
    have hb : Below w.heap.size w (w.alloc (.cells #[.int .i64 6, .int .u32 0, .int .u32 (about : Int), .slice At nt ct, .slice Aa na ca, .slice An nn cn, .int .u64 (rate : Int), .int .i64 ty, .int .i64 count, .slice Ab nb cb] 33)) := (Below.refl _ w).alloc (Nat.le_refl _) _
    have e : bareN 6 0 about nt na nn rate ty count nb = false := by simp [bareN, hc]
    rw [e]
    clear e
    have d : ((about : Int) != 0) = true := by simp; omega
    clear hc
    go_enter Try.func52, Try.ntmps52
    go_wp2_with fail
    go_ret
    exact ⟨rfl, hb⟩
  subst hc
  by_cases hc : nt = 0
  rotate_left
  · have hc' : 0 < nt := by omega
    have hb : Below w.heap.size w (w.alloc (.cells #[.int .i64 6, .int .u32 0, .int .u32 0, .slice At nt ct, .slice Aa na ca, .slice An nn cn, .int .u64 (rate : Int), .int .i64 ty, .int .i64 count, .slice Ab nb cb] 33)) := (Below.refl _ w).alloc (Nat.le_refl _) _
    have e : bareN 6 0 0 nt na nn rate ty count nb = false := by simp [bareN, hc']
    rw [e]
    clear e
    have d : (0 : Int) < (nt : Int) := by omega
    have d' : 0 < nt := by omega
    clear hc
    go_enter Try.func52, Try.ntmps52
    go_wp2_with fail
    go_ret
    exact ⟨rfl, hb⟩
  subst hc
  by_cases hc : na = 0
  rotate_left
  · have hc' : 0 < na := by omega
    have hb : Below w.heap.size w (w.alloc (.cells #[.int .i64 6, .int .u32 0, .int .u32 0, .slice At 0 ct, .slice Aa na ca, .slice An nn cn, .int .u64 (rate : Int), .int .i64 ty, .int .i64 count, .slice Ab nb cb] 33)) := (Below.refl _ w).alloc (Nat.le_refl _) _
    have e : bareN 6 0 0 0 na nn rate ty count nb = false := by simp [bareN, hc']
    rw [e]
    clear e
    have d : (0 : Int) < (na : Int) := by omega
    have d' : 0 < na := by omega
    clear hc
    go_enter Try.func52, Try.ntmps52
    go_wp2_with fail
    go_ret
    exact ⟨rfl, hb⟩
  subst hc
  by_cases hc : nn = 0
  rotate_left
  · have hc' : 0 < nn := by omega
    have hb : Below w.heap.size w (w.alloc (.cells #[.int .i64 6, .int .u32 0, .int .u32 0, .slice At 0 ct, .slice Aa 0 ca, .slice An nn cn, .int .u64 (rate : Int), .int .i64 ty, .int .i64 count, .slice Ab nb cb] 33)) := (Below.refl _ w).alloc (Nat.le_refl _) _
    have e : bareN 6 0 0 0 0 nn rate ty count nb = false := by simp [bareN, hc']
    rw [e]
    clear e
    have d : (0 : Int) < (nn : Int) := by omega
    have d' : 0 < nn := by omega
    clear hc
    go_enter Try.func52, Try.ntmps52
    go_wp2_with fail
    go_ret
    exact ⟨rfl, hb⟩
  subst hc
  by_cases hc : rate = 0
  rotate_left
  · skip
    have hb : Below w.heap.size w (w.alloc (.cells #[.int .i64 6, .int .u32 0, .int .u32 0, .slice At 0 ct, .slice Aa 0 ca, .slice An 0 cn, .int .u64 (rate : Int), .int .i64 ty, .int .i64 count, .slice Ab nb cb] 33)) := (Below.refl _ w).alloc (Nat.le_refl _) _
    have e : bareN 6 0 0 0 0 0 rate ty count nb = false := by simp [bareN, hc]
    rw [e]
    clear e
    have d : ((rate : Int) != 0) = true := by simp; omega
    clear hc
    go_enter Try.func52, Try.ntmps52
    go_wp2_with fail
    go_ret
    exact ⟨rfl, hb⟩
  subst hc
  have hb : Below w.heap.size w (w.alloc (.cells #[.int .i64 6, .int .u32 0, .int .u32 0, .slice At 0 ct, .slice Aa 0 ca, .slice An 0 cn, .int .u64 0, .int .i64 ty, .int .i64 count, .slice Ab nb cb] 33)) := (Below.refl _ w).alloc (Nat.le_refl _) _
  have e : bareN 6 0 0 0 0 0 0 ty count nb = true := by simp [bareN]
  rw [e]
  clear e
  go_enter Try.func52, Try.ntmps52
  go_wp2_with fail
  go_ret
  exact ⟨rfl, hb⟩
theorem ref6_empty (x : Rv) (w : World) (hk : 1 ≤ x.r.kind ∧ x.r.kind ≤ 6) :
    Calls Try.prog 52 #[x.val] w (AnsW (.bool x.r.bare) w) := by
  obtain ⟨⟨kind, src, about, tups, abouts, nums, rate, ty, count, body⟩, At, ct, Aa, ca, An, cn, Ab, cb⟩ := x
  simp only at hk
  rw [Rep.bare_eq]
  have hk : kind = 1 ∨ kind = 2 ∨ kind = 3 ∨ kind = 4 ∨ kind = 5 ∨ kind = 6 := by omega
  rcases hk with rfl | rfl | rfl | rfl | rfl | rfl
  · exact empty_1 _ _ _ _ _ _ _ _ _ _ _ _ _ _ _ _ _ w
  · exact empty_2 _ _ _ _ _ _ _ _ _ _ _ _ _ _ _ _ _ w
  · exact empty_3 _ _ _ _ _ _ _ _ _ _ _ _ _ _ _ _ _ w
  · exact empty_4 _ _ _ _ _ _ _ _ _ _ _ _ _ _ _ _ _ w
  · exact empty_5 _ _ _ _ _ _ _ _ _ _ _ _ _ _ _ _ _ w
  · exact empty_6 _ _ _ _ _ _ _ _ _ _ _ _ _ _ _ _ _ w
end Go.Proofs.Ytnchgmemajmkjaa
