/- What stands while two queues are asked the same. -/
import Derived.Test.YtdjopbhjfnakdaaPqR
namespace Go.Proofs.Ytdjopbhjfnakdaa
open Go.RowKit
set_option linter.unusedVariables false
set_option linter.unusedSimpArgs false
set_option maxRecDepth 20000

/-- Both queues, each by its numbers; they stand on blocks of their own. -/
structure Ply (w0 : World) (G gb G' g' u : Nat) (r2 l2 : Nat) (Q2 : Row8) (cut2 : Nat) (S : Nat → Prop) (r l : Nat) (Q : Row8) (cut : Nat) (A : Option Addr) (c : Nat) (W : World) : Prop where
  pq : PqAt W G gb r2 u l2 Q2 cut2 S
  rq : RqAt W G' g' r u l Q cut A c
  lo : ∀ k, S k → w0.heap.size ≤ k
  sep : ∀ k, S k → k ≠ G' ∧ k ≠ g' ∧ ∀ ad, A = some ad → 0 < Q.length → ad.block ≠ k
  below : Below w0.heap.size w0 W
section
variable {w0 W W' : World} {G gb G' g' u r2 l2 r l cut2 cut c : Nat} {Q2 Q : Row8} {A : Option Addr} {S : Nat → Prop}
theorem Ply.on (h : Ply w0 G gb G' g' u r2 l2 Q2 cut2 S r l Q cut A c W) (hb : Below W.heap.size W W') : Ply w0 G gb G' g' u r2 l2 Q2 cut2 S r l Q cut A c W' :=
  ⟨h.pq.keep (OnlyS.of (S := fun _ => False) hb) (fun _ _ h => h), h.rq.on hb, h.lo, h.sep, h.below.trans (hb.mono h.below.size)⟩
/-- Blocks of neither have turned. -/
theorem Ply.other (h : Ply w0 G gb G' g' u r2 l2 Q2 cut2 S r l Q cut A c W) {T : Nat → Prop} (ho : OnlyS T W W') (hT : ∀ k, T k → w0.heap.size ≤ k) (h1 : ∀ k, S k → ¬ T k) (h2 : ¬ T G') (h3 : ¬ T g') (h4 : ∀ ad, A = some ad → 0 < Q.length → ¬ T ad.block) : Ply w0 G gb G' g' u r2 l2 Q2 cut2 S r l Q cut A c W' :=
  ⟨h.pq.keep ho h1, h.rq.other ho h2 h3 h4, h.lo, h.sep, h.below.trans (ho.below hT h.below.size)⟩
/-- The row of the reference's lies in what was made. -/
theorem Ply.rowlt (h : Ply w0 G gb G' g' u r2 l2 Q2 cut2 S r l Q cut A c W) {ad : Addr} (hA : A = some ad) (hQ : 0 < Q.length) : ad.block < W.heap.size := by
  obtain ⟨b, off, e, hb, _⟩ := h.rq.row.at hQ
  subst hA
  injection e with e
  subst e
  exact hb
/-- The project's queue has been asked. -/
theorem Ply.turn (h : Ply w0 G gb G' g' u r2 l2 Q2 cut2 S r l Q cut A c W) {r3 l3 cut3 : Nat} {Q3 : Row8} {S' : Nat → Prop} (hp : PqAt W' G gb r3 u l3 Q3 cut3 S') (hS : ∀ k, S' k → S k ∨ W.heap.size ≤ k) (ho : OnlyS S W W') : Ply w0 G gb G' g' u r3 l3 Q3 cut3 S' r l Q cut A c W' := by
  have hG := h.rq.blk.lt
  have hg := BkAt.lt h.rq.bkt
  refine ⟨hp, h.rq.other ho (fun e => (h.sep G' e).1 rfl) (fun e => (h.sep g' e).2.1 rfl) (fun ad hA hQ e => (h.sep _ e).2.2 ad hA hQ rfl), fun k hk => ?_, fun k hk => ?_, h.below.trans (ho.below h.lo h.below.size)⟩
  · rcases hS k hk with h1 | h1
    · exact h.lo k h1
    · exact Nat.le_trans h.below.size h1
  · rcases hS k hk with h1 | h1
    · exact h.sep k h1
    · exact ⟨by omega, by omega, fun ad hA hQ e => by have := h.rowlt hA hQ; omega⟩
theorem Ply.out (h : Ply w0 G gb G' g' u r2 l2 Q2 cut2 S r l Q cut A c W) {r3 l3 cut3 : Nat} {Q3 : Row8} {v : Value} {e : Ending} (ho : PqOut G gb r3 u l3 Q3 cut3 S v W e W') : e = .returned v ∧ ∃ S', Ply w0 G gb G' g' u r3 l3 Q3 cut3 S' r l Q cut A c W' ∧ (∀ k, S' k → S k ∨ W.heap.size ≤ k) := by
  obtain ⟨h1, S', h2, h3, h4⟩ := ho
  exact ⟨h1, S', h.turn h2 h3 h4, h3⟩
/-- The reference's queue has been asked. -/
theorem Ply.ref (h : Ply w0 G gb G' g' u r2 l2 Q2 cut2 S r l Q cut A c W) {r3 l3 cut3 c3 : Nat} {Q3 : Row8} {A3 : Option Addr} (hq : RqAt W' G' g' r3 u l3 Q3 cut3 A3 c3) (ho : OnlyS (fun k => k = G' ∨ k = g') W W') (hG : w0.heap.size ≤ G') (hg : w0.heap.size ≤ g') (hA : ∀ ad, A3 = some ad → 0 < Q3.length → (A = some ad ∧ 0 < Q.length) ∨ W.heap.size ≤ ad.block) : Ply w0 G gb G' g' u r2 l2 Q2 cut2 S r3 l3 Q3 cut3 A3 c3 W' := by
  refine ⟨h.pq.keep ho (fun k hk hT => ?_), hq, h.lo, fun k hk => ⟨(h.sep k hk).1, (h.sep k hk).2.1, fun ad hA3 hQ3 e => ?_⟩, h.below.trans (ho.below (fun k hk => ?_) h.below.size)⟩
  · rcases hT with hT | hT
    · exact (h.sep k hk).1 hT
    · exact (h.sep k hk).2.1 hT
  · rcases hA ad hA3 hQ3 with h1 | h1
    · exact (h.sep k hk).2.2 ad h1.1 h1.2 e
    · have := h.pq.lt hk
      omega
  · rcases hk with hk | hk <;> omega
end
end Go.Proofs.Ytdjopbhjfnakdaa
