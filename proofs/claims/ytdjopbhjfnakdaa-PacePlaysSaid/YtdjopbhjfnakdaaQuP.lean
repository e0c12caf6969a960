/- A queue that is paced, in plain words: what is put, what goes, what is left. No function of the program. -/
import Derived.Test.YtdjopbhjfnakdaaCkB
namespace Go.Proofs.Ytdjopbhjfnakdaa
open Go.RowKit
set_option linter.unusedVariables false
set_option linter.unusedSimpArgs false
set_option maxRecDepth 20000

abbrev Row8 := List (List UInt8)
/-- What a datagram costs. -/
def costN (b : List UInt8) : Nat := b.length + 28
def putB (u : Nat) (Q : Row8) (b : List UInt8) : Bool := decide (Q.length < 16 ∧ costN b ≤ u)
def putQ (u : Nat) (Q : Row8) (b : List UInt8) : Row8 := if putB u Q b = true then Q ++ [b] else Q
def putC (u : Nat) (Q : Row8) (b : List UInt8) (cut : Nat) : Nat := if putB u Q b = true then cut else cut + 1
/-- What goes, what is left, the level behind. -/
def goO (l : Nat) : Row8 → Row8
  | [] => []
  | b :: Q => if costN b * 1000000 ≤ l then b :: goO (l - costN b * 1000000) Q else []
def goR (l : Nat) : Row8 → Row8
  | [] => []
  | b :: Q => if costN b * 1000000 ≤ l then goR (l - costN b * 1000000) Q else b :: Q
def goL (l : Nat) : Row8 → Nat
  | [] => l
  | b :: Q => if costN b * 1000000 ≤ l then goL (l - costN b * 1000000) Q else l
theorem go_all (l : Nat) (Q : Row8) : goO l Q ++ goR l Q = Q := by
  induction Q generalizing l with
  | nil => rfl
  | cons b Q ih =>
    unfold goO goR
    split
    · rw [List.cons_append, ih]
    · rfl
theorem goL_le (l : Nat) (Q : Row8) : goL l Q ≤ l := by
  induction Q generalizing l with
  | nil => exact Nat.le_refl _
  | cons b Q ih =>
    unfold goL
    split
    · exact Nat.le_trans (ih _) (Nat.sub_le _ _)
    · exact Nat.le_refl _
theorem goR_len (l : Nat) (Q : Row8) : (goR l Q).length ≤ Q.length := by
  have h := congrArg List.length (go_all l Q)
  rw [List.length_append] at h
  omega
theorem goO_len (l : Nat) (Q : Row8) : (goO l Q).length + (goR l Q).length = Q.length := by
  have h := congrArg List.length (go_all l Q)
  rw [List.length_append] at h
  omega
theorem goR_mem {l : Nat} {Q : Row8} {b : List UInt8} (h : b ∈ goR l Q) : b ∈ Q := by
  rw [← go_all l Q]
  exact List.mem_append_right _ h
theorem goO_mem {l : Nat} {Q : Row8} {b : List UInt8} (h : b ∈ goO l Q) : b ∈ Q := by
  rw [← go_all l Q]
  exact List.mem_append_left _ h
theorem go_yes {l : Nat} {b : List UInt8} {Q : Row8} (h : costN b * 1000000 ≤ l) : goO l (b :: Q) = b :: goO (l - costN b * 1000000) Q ∧ goR l (b :: Q) = goR (l - costN b * 1000000) Q ∧ goL l (b :: Q) = goL (l - costN b * 1000000) Q := by
  simp only [goO, goR, goL, if_pos h, and_self]
theorem go_no {l : Nat} {b : List UInt8} {Q : Row8} (h : ¬ costN b * 1000000 ≤ l) : goO l (b :: Q) = [] ∧ goR l (b :: Q) = b :: Q ∧ goL l (b :: Q) = l := by
  simp only [goO, goR, goL, if_neg h, and_self]
theorem take_cost {l : Nat} (b : List UInt8) : takeB l ((b.length : Int) + 28) = decide (costN b * 1000000 ≤ l) := by
  unfold takeB costN
  apply Bool.eq_iff_iff.2
  simp only [decide_eq_true_eq]
  omega
theorem take_costL {l : Nat} (b : List UInt8) (h : costN b * 1000000 ≤ l) : takeL l ((b.length : Int) + 28) = l - costN b * 1000000 := by
  unfold takeL
  rw [if_pos (by rw [take_cost]; simpa using h)]
  unfold costN
  omega
theorem take_costN {l : Nat} (b : List UInt8) (h : ¬ costN b * 1000000 ≤ l) : takeL l ((b.length : Int) + 28) = l := by
  unfold takeL
  rw [if_neg (by rw [take_cost]; simpa using h)]
/-- All that waits are right, and no more than sixteen. -/
structure QuOk (u : Nat) (Q : Row8) : Prop where
  len : Q.length ≤ 16
  fit : ∀ b ∈ Q, costN b ≤ u
theorem putQ_ok {u : Nat} {Q : Row8} {b : List UInt8} (h : QuOk u Q) : QuOk u (putQ u Q b) := by
  unfold putQ
  split
  · rename_i h1
    simp only [putB, decide_eq_true_eq] at h1
    refine ⟨by rw [List.length_append, List.length_singleton]; omega, fun x hx => ?_⟩
    rcases List.mem_append.1 hx with h2 | h2
    · exact h.fit x h2
    · rw [List.mem_singleton] at h2
      subst h2
      exact h1.2
  · exact h
theorem goR_ok {u l : Nat} {Q : Row8} (h : QuOk u Q) : QuOk u (goR l Q) := ⟨Nat.le_trans (goR_len l Q) h.len, fun x hx => h.fit x (goR_mem hx)⟩
/-- Where the first one goes, something goes. -/
theorem go_less {l : Nat} {b : List UInt8} {Q : Row8} (h : costN b * 1000000 ≤ l) : (goR l (b :: Q)).length ≤ Q.length := by
  rw [(go_yes h).2.1]
  exact goR_len _ _
end Go.Proofs.Ytdjopbhjfnakdaa
