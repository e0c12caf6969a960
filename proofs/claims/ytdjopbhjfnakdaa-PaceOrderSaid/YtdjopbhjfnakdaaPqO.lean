/- PaceOrder: what stands while datagrams are put and go, and what was wanted and got is written down. -/
import Derived.Test.YtdjopbhjfnakdaaPqK
import Derived.Test.YtdjopbhjfnakdaaRi
import Derived.Test.YtdjopbhjfnakdaaCWithinE
namespace Go.Proofs.Ytdjopbhjfnakdaa
open Go.RowKit
set_option linter.unusedVariables false
set_option linter.unusedSimpArgs false
set_option maxRecDepth 20000

def headsQ (Q : Row8) : List UInt8 := Q.map fun b => b.headD 0
theorem headsQ_app (P Q : Row8) : headsQ (P ++ Q) = headsQ P ++ headsQ Q := List.map_append
theorem headsQ_len (Q : Row8) : (headsQ Q).length = Q.length := by simp [headsQ]
theorem own_keepS {w w' : World} {base size n : Nat} {e : TypeId} {v : Value} {xs : List Value} {S : Nat → Prop} (h : w.ownsRow base e size v n xs) (ho : OnlyS S w w') (hS : ∀ k, S k → v.ownBlock ≠ some k) : w'.ownsRow base e size v n xs := by
  refine ⟨h.1, ?_⟩
  rcases h.2 with hn | ⟨g, cap, cur, rfl, hb, hg, rest⟩
  · exact .inl hn
  · exact .inr ⟨g, cap, cur, rfl, hb, (ho.block g (Array.getElem?_eq_some_iff.1 hg).1 (fun hs => hS g hs rfl)).trans hg, rest⟩
structure Ord (w0 : World) (G gb r l : Nat) (Q : Row8) (cut : Nat) (S : Nat → Prop) (v6 : Value) (W8 : List UInt8) (v7 : Value) (G8 : List UInt8) (W : World) : Prop where
  pq : PqAt W G gb r 2000 l Q cut S
  want : Own8 W w0.heap.size v6 W8
  got : Own8 W w0.heap.size v7 G8
  lo : ∀ k, S k → w0.heap.size ≤ k
  s6 : ∀ k, S k → v6.ownBlock ≠ some k
  s7 : ∀ k, S k → v7.ownBlock ≠ some k
  d : ∀ k, v6.ownBlock = some k → v7.ownBlock ≠ some k
  below : Below w0.heap.size w0 W
section
variable {w0 W W' : World} {G gb r l cut : Nat} {Q : Row8} {S : Nat → Prop} {v6 v7 : Value} {W8 G8 : List UInt8}
theorem Ord.lt6 (h : Ord w0 G gb r l Q cut S v6 W8 v7 G8 W) {k : Nat} (hk : v6.ownBlock = some k) : w0.heap.size ≤ k ∧ k < W.heap.size := World.ownsRow.lt h.want k hk
theorem Ord.lt7 (h : Ord w0 G gb r l Q cut S v6 W8 v7 G8 W) {k : Nat} (hk : v7.ownBlock = some k) : w0.heap.size ≤ k ∧ k < W.heap.size := World.ownsRow.lt h.got k hk
/-- Other blocks turned. -/
theorem Ord.other (h : Ord w0 G gb r l Q cut S v6 W8 v7 G8 W) {T : Nat → Prop} (ho : OnlyS T W W') (hT : ∀ k, T k → w0.heap.size ≤ k) (h1 : ∀ k, S k → ¬ T k) (h2 : ∀ k, T k → v6.ownBlock ≠ some k) (h3 : ∀ k, T k → v7.ownBlock ≠ some k) : Ord w0 G gb r l Q cut S v6 W8 v7 G8 W' :=
  ⟨h.pq.keep ho h1, own_keepS h.want ho h2, own_keepS h.got ho h3, h.lo, h.s6, h.s7, h.d, h.below.trans (ho.below hT h.below.size)⟩
theorem Ord.on (h : Ord w0 G gb r l Q cut S v6 W8 v7 G8 W) (hb : Below W.heap.size W W') : Ord w0 G gb r l Q cut S v6 W8 v7 G8 W' :=
  ⟨h.pq.keep (OnlyS.of (S := fun _ => False) hb) (fun _ _ h => h), own_keepS h.want (OnlyS.of (S := fun _ => False) hb) (fun _ h => h.elim), own_keepS h.got (OnlyS.of (S := fun _ => False) hb) (fun _ h => h.elim), h.lo, h.s6, h.s7, h.d, h.below.trans (hb.mono h.below.size)⟩
/-- The queue has been asked. -/
theorem Ord.turn (h : Ord w0 G gb r l Q cut S v6 W8 v7 G8 W) {l' cut' : Nat} {Q' : Row8} {S' : Nat → Prop} (hp : PqAt W' G gb r 2000 l' Q' cut' S') (hS : ∀ k, S' k → S k ∨ W.heap.size ≤ k) (ho : OnlyS S W W') : Ord w0 G gb r l' Q' cut' S' v6 W8 v7 G8 W' := by
  refine ⟨hp, own_keepS h.want ho h.s6, own_keepS h.got ho h.s7, fun k hk => ?_, fun k hk => ?_, fun k hk => ?_, h.d, h.below.trans (ho.below h.lo h.below.size)⟩
  · rcases hS k hk with h1 | h1
    · exact h.lo k h1
    · exact Nat.le_trans h.below.size h1
  · rcases hS k hk with h1 | h1
    · exact h.s6 k h1
    · exact fun e => by have := (h.lt6 e).2; omega
  · rcases hS k hk with h1 | h1
    · exact h.s7 k h1
    · exact fun e => by have := (h.lt7 e).2; omega
/-- What is wanted has grown. -/
theorem Ord.app6 (h : Ord w0 G gb r l Q cut S v6 W8 v7 G8 W) {v : Value} {L : List UInt8} (ha : App8 W w0.heap.size v6 L v W') : Ord w0 G gb r l Q cut S v L v7 G8 W' := by
  obtain ⟨ho, hg, hv⟩ := ha
  have hO : OnlyS (fun k => v6.ownBlock = some k) W W' := ⟨hg.os, hg.tape, hg.output, hg.size, fun k hk hn => hg.block k hk (fun e => hn e.symm)⟩
  refine ⟨h.pq.keep hO (fun k hk e => h.s6 k hk e), ho, own_keepS h.got hO (fun k hk e => h.d k hk e), h.lo, fun k hk e => ?_, h.s7, fun k hk e => ?_, h.below.trans (hO.below (fun k hk => (h.lt6 hk).1) h.below.size)⟩
  · rcases hv with hv | hv
    · exact h.s6 k hk (hv ▸ e)
    · have := h.pq.lt hk
      rw [hv] at e
      injection e with e
      omega
  · rcases hv with hv | hv
    · exact h.d k (hv ▸ hk) e
    · have := (h.lt7 e).2
      rw [hv] at hk
      injection hk with hk
      omega
/-- What is got has grown. -/
theorem Ord.app7 (h : Ord w0 G gb r l Q cut S v6 W8 v7 G8 W) {v : Value} {L : List UInt8} (ha : App8 W w0.heap.size v7 L v W') : Ord w0 G gb r l Q cut S v6 W8 v L W' := by
  obtain ⟨ho, hg, hv⟩ := ha
  have hO : OnlyS (fun k => v7.ownBlock = some k) W W' := ⟨hg.os, hg.tape, hg.output, hg.size, fun k hk hn => hg.block k hk (fun e => hn e.symm)⟩
  refine ⟨h.pq.keep hO (fun k hk e => h.s7 k hk e), own_keepS h.want hO (fun k hk e => h.d k e hk), ho, h.lo, h.s6, fun k hk e => ?_, fun k hk e => ?_, h.below.trans (hO.below (fun k hk => (h.lt7 hk).1) h.below.size)⟩
  · rcases hv with hv | hv
    · exact h.s7 k hk (hv ▸ e)
    · have := h.pq.lt hk
      rw [hv] at e
      injection e with e
      omega
  · rcases hv with hv | hv
    · exact h.d k hk (hv ▸ e)
    · have := (h.lt6 hk).2
      rw [hv] at e
      injection e with e
      omega
end
/-- All that waits can go, is not empty, and is short. -/
structure OrQ (r l : Nat) (Q : Row8) : Prop where
  ok : BkOk r 2000 l
  qu : QuOk 2000 Q
  small : ∀ b ∈ Q, 0 < b.length ∧ b.length ≤ 301
theorem OrQ.go {r l : Nat} {Q : Row8} (h : OrQ r l Q) : OrQ r (goL l Q) (goR l Q) := ⟨⟨h.ok.rate, h.ok.burst, Nat.le_trans (goL_le l Q) h.ok.level⟩, goR_ok h.qu, fun b hb => h.small b (goR_mem hb)⟩
theorem OrQ.tick {r l : Nat} {Q : Row8} (h : OrQ r l Q) (us : Int) : OrQ r (tickN r 2000 l us) Q := ⟨tick_ok h.ok us, h.qu, h.small⟩
theorem OrQ.put {r l : Nat} {Q : Row8} {x : List UInt8} (h : OrQ r l Q) (hx : 0 < x.length ∧ x.length ≤ 301) : OrQ r l (putQ 2000 Q x) := ⟨h.ok, putQ_ok h.qu, fun b hb => by
  unfold putQ at hb
  split at hb
  · rcases List.mem_append.1 hb with h1 | h1
    · exact h.small b h1
    · rw [List.mem_singleton] at h1
      rw [h1]
      exact hx
  · exact h.small b hb⟩
/-- In a second something goes. -/
theorem po_cast (n : Nat) : po (n : Int) = n := Int.toNat_natCast n
theorem ord_tick {r l : Nat} (hr : 1000 ≤ r) (hr2 : r ≤ 70000) : 329000000 ≤ tickN r 2000 l 1000000 := by
  have h3 : r * 1000000 ≤ 70000 * 1000000 := Nat.mul_le_mul_right _ hr2
  have h4 : 1000 * 1000000 ≤ r * 1000000 := Nat.mul_le_mul_right _ hr
  have hm : mulC (r : Int) (1000000 : Int) = r * 1000000 := by
    unfold mulC
    rw [po_cast, show po (1000000 : Int) = 1000000 by rfl]
    omega
  unfold tickN
  rw [hm]
  obtain ⟨R, hR⟩ : ∃ R, R = r * 1000000 := ⟨_, rfl⟩
  rw [← hR] at h3 h4 ⊢
  unfold addC
  rw [po_cast, po_cast]
  omega
theorem ord_less {r l : Nat} {b : List UInt8} {Q : Row8} (hr : 1000 ≤ r) (hr2 : r ≤ 70000) (h : OrQ r l (b :: Q)) {T : Nat} (hT : tickN r 2000 l 1000000 = T) : (goR T (b :: Q)).length ≤ Q.length := by
  have h1 : costN b ≤ 329 := by have := (h.small b (by simp)).2; unfold costN; omega
  have h2 := ord_tick (l := l) hr hr2
  rw [hT] at h2
  exact go_less (by omega)
theorem pq_tick_at {w : World} {G gb r u l : Nat} {Q : Row8} {cut : Nat} {S : Nat → Prop} (h : PqAt w G gb r u l Q cut S) (ok : BkOk r u l) {us : Int} (hu : I64 us) {T : Nat} (hT : tickN r u l us = T) : Calls Try.prog 14 #[.pointer (some ⟨G, 0, none⟩), .int .i64 us] w (PqOut G gb r u T Q cut S (.tuple #[]) w) := by
  subst hT
  exact pq_tick h ok hu
theorem ord_sec {r l : Nat} {Q : Row8} (hr : 1000 ≤ r) (hr2 : r ≤ 70000) (h : OrQ r l Q) (hQ : 0 < Q.length) : ∃ T, Hid (tickN r 2000 l 1000000 = T) ∧ OrQ r T Q ∧ (goR T Q).length < Q.length := by
  obtain ⟨T, hT⟩ : ∃ T, tickN r 2000 l 1000000 = T := ⟨_, rfl⟩
  have h1 := h.tick 1000000
  rw [hT] at h1
  refine ⟨T, Lib.hid hT, h1, ?_⟩
  cases Q with
  | nil => simp at hQ
  | cons b R =>
    have := ord_less hr hr2 h hT
    rw [List.length_cons]
    omega
theorem ord_some {r l : Nat} {Q : Row8} (us : Int) (h : OrQ r l Q) : ∃ T, Hid (tickN r 2000 l us = T) ∧ OrQ r T Q := by
  obtain ⟨T, hT⟩ : ∃ T, tickN r 2000 l us = T := ⟨_, rfl⟩
  have h1 := h.tick us
  rw [hT] at h1
  exact ⟨T, Lib.hid hT, h1⟩
end Go.Proofs.Ytdjopbhjfnakdaa
