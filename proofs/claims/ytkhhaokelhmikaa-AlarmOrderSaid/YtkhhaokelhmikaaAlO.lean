/- AlarmOrder's walk. -/
import Derived.Test.YtkhhaokelhmikaaAlH
import Derived.Test.YtkhhaokelhmikaaRi
import Derived.Deep.Cut
import Derived.Deep.CutBlock
namespace Go.Proofs.Ytkhhaokelhmikaa
open Go.RowKit
set_option linter.unusedVariables false
set_option linter.unusedSimpArgs false
set_option maxRecDepth 20000

/-- A slice of int64 numbers that reads as F. -/
def RF (w : World) (B : Nat) (A : Option Addr) (n c : Nat) (F : Nat → Int) : Prop :=
  n ≤ c ∧ (∀ i, i < n → I64 (F i)) ∧ (0 < n → ∃ b off, A = some ⟨b, off, none⟩ ∧ b < B ∧ ∀ i, i < n → w.cell? ⟨b, off + i, none⟩ = some (.int .i64 (F i)))
theorem RI.rf {w : World} {B n c : Nat} {A : Option Addr} (h : RI w B A n c) : ∃ F, RF w B A n c F := by
  rcases Nat.eq_zero_or_pos n with h0 | h0
  · subst h0
    exact ⟨fun _ => 0, h.1, fun i hi => absurd hi (by omega), fun hn => absurd hn (by omega)⟩
  · obtain ⟨b, off, e, hb, hc⟩ := h.2 h0
    have each : ∀ i, ∃ x : Int, i < n → I64 x ∧ w.cell? ⟨b, off + i, none⟩ = some (.int .i64 x) := fun i => by
      by_cases hi : i < n
      · obtain ⟨x, hx⟩ := hc i hi
        exact ⟨x, fun _ => hx⟩
      · exact ⟨0, fun h => absurd h hi⟩
    obtain ⟨F, hF⟩ := Classical.axiomOfChoice each
    exact ⟨F, h.1, fun i hi => (hF i hi).1, fun _ => ⟨b, off, e, hb, fun i hi => (hF i hi).2⟩⟩
theorem RF.below {w w' : World} {B n c : Nat} {A : Option Addr} {F : Nat → Int} (h : RF w B A n c F) (hb : Below B w w') : RF w' B A n c F :=
  ⟨h.1, h.2.1, fun hn => by
    obtain ⟨b, off, e, hlt, hc⟩ := h.2.2 hn
    exact ⟨b, off, e, hlt, fun i hi => (hb.cell (p := ⟨b, off + i, none⟩) hlt).trans (hc i hi)⟩⟩
/-! ### What was set -/
def setsF (F : Nat → Int) (q : Nat) : List Du := (List.range q).map fun i => ⟨F i, i⟩
def cntF (F : Nat → Int) (now : Int) (q : Nat) : Nat := ((List.range q).filter fun i => decide (F i ≤ now)).length
theorem setsF_len (F : Nat → Int) (q : Nat) : (setsF F q).length = q := by simp [setsF]
theorem setsF_mem {F : Nat → Int} {q : Nat} {d : Du} : d ∈ setsF F q ↔ d.k < q ∧ d.t = F d.k := by
  unfold setsF
  rw [List.mem_map]
  constructor
  · rintro ⟨i, hi, rfl⟩
    exact ⟨List.mem_range.1 hi, rfl⟩
  · rintro ⟨h1, h2⟩
    exact ⟨d.k, List.mem_range.2 h1, Du.eta h2.symm rfl⟩
theorem setsF_succ (F : Nat → Int) (q : Nat) : setK (setsF F q) q (F q) = setsF F (q + 1) := by
  have h : dropK (setsF F q) q = setsF F q := by
    unfold dropK
    refine List.filter_eq_self.2 fun d hd => ?_
    have := (setsF_mem.1 hd).1
    simpa using (by omega : d.k ≠ q)
  unfold setK
  rw [h]
  unfold setsF
  rw [List.range_succ, List.map_append]
  rfl
theorem cntF_le (F : Nat → Int) (now : Int) (q : Nat) : cntF F now q ≤ q := by
  unfold cntF
  have := List.length_filter_le (fun i => decide (F i ≤ now)) (List.range q)
  rwa [List.length_range] at this
theorem cntF_succ (F : Nat → Int) (now : Int) (q : Nat) : cntF F now (q + 1) = cntF F now q + if F q ≤ now then 1 else 0 := by
  unfold cntF
  rw [List.range_succ, List.filter_append, List.length_append]
  by_cases h : F q ≤ now <;> simp [h]
theorem late_cnt (F : Nat → Int) (now : Int) (q : Nat) : (lateK (setsF F q) now).length + cntF F now q = q := by
  induction q with
  | zero => rfl
  | succ q ih =>
    have e : lateK (setsF F (q + 1)) now = lateK (setsF F q) now ++ if F q ≤ now then [] else [⟨F q, q⟩] := by
      unfold lateK setsF
      rw [List.range_succ, List.map_append, List.filter_append]
      by_cases h : F q ≤ now
      · rw [if_pos h]
        simp; omega
      · rw [if_neg h]
        simp; omega
    rw [e, cntF_succ, List.length_append]
    by_cases h : F q ≤ now
    · rw [if_pos h, if_pos h]; simp; omega
    · rw [if_neg h, if_neg h]; simp; omega
theorem late_late (L : List Du) (now : Int) : lateK (lateK L now) now = lateK L now := by
  unfold lateK
  rw [List.filter_filter]
  simp
theorem due_late {L R : List Du} {now : Int} (h : DueR (lateK L now) now R) : R = [] :=
  List.eq_nil_iff_forall_not_mem.2 fun d hd => by
    have h1 := (h.mem d).1 hd
    have h2 := (lateK_mem.1 h1.1).2
    omega
theorem DueR.next {L R : List Du} {now : Int} (h : DueR L now R) {i : Nat} (hi : i + 1 < R.length) : ltB R[i] R[i + 1] = true :=
  List.pairwise_iff_getElem.1 h.order i (i + 1) (by omega) hi (by omega)
end Go.Proofs.Ytkhhaokelhmikaa
