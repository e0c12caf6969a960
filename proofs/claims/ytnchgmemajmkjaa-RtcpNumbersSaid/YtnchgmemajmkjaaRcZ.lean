/- A block of ten cells (a report) that is written over whole; a report's slices stay where another block is written. No program's function. -/
import Derived.Test.YtnchgmemajmkjaaRcR
namespace Go.Proofs.Ytnchgmemajmkjaa
open Go.RowKit
set_option linter.unusedVariables false
set_option linter.unusedSimpArgs false
set_option maxRecDepth 20000

def set10 (W : World) (R : Nat) (v0 v1 v2 v3 v4 v5 v6 v7 v8 v9 : Value) : World := ((((((((((W.setCell ⟨R, 0, none⟩ v0).setCell ⟨R, 1, none⟩ v1).setCell ⟨R, 2, none⟩ v2).setCell ⟨R, 3, none⟩ v3).setCell ⟨R, 4, none⟩ v4).setCell ⟨R, 5, none⟩ v5).setCell ⟨R, 6, none⟩ v6).setCell ⟨R, 7, none⟩ v7).setCell ⟨R, 8, none⟩ v8).setCell ⟨R, 9, none⟩ v9)
section
variable {W : World} {R : Nat} {t : TypeId} {c0 c1 c2 c3 c4 c5 c6 c7 c8 c9 v0 v1 v2 v3 v4 v5 v6 v7 v8 v9 : Value}
theorem set10_blk (h : Blk W R t #[c0, c1, c2, c3, c4, c5, c6, c7, c8, c9]) : Blk (set10 W R v0 v1 v2 v3 v4 v5 v6 v7 v8 v9) R t #[v0, v1, v2, v3, v4, v5, v6, v7, v8, v9] := by
  have h1 : Blk (W.setCell ⟨R, 0, none⟩ v0) R t #[v0, c1, c2, c3, c4, c5, c6, c7, c8, c9] := by
    have := h.set_ 0 v0
    simpa only [List.setIfInBounds_toArray, List.set_cons_succ, List.set_cons_zero] using this
  have h2 : Blk ((W.setCell ⟨R, 0, none⟩ v0).setCell ⟨R, 1, none⟩ v1) R t #[v0, v1, c2, c3, c4, c5, c6, c7, c8, c9] := by
    have := h1.set_ 1 v1
    simpa only [List.setIfInBounds_toArray, List.set_cons_succ, List.set_cons_zero] using this
  have h3 : Blk (((W.setCell ⟨R, 0, none⟩ v0).setCell ⟨R, 1, none⟩ v1).setCell ⟨R, 2, none⟩ v2) R t #[v0, v1, v2, c3, c4, c5, c6, c7, c8, c9] := by
    have := h2.set_ 2 v2
    simpa only [List.setIfInBounds_toArray, List.set_cons_succ, List.set_cons_zero] using this
  have h4 : Blk ((((W.setCell ⟨R, 0, none⟩ v0).setCell ⟨R, 1, none⟩ v1).setCell ⟨R, 2, none⟩ v2).setCell ⟨R, 3, none⟩ v3) R t #[v0, v1, v2, v3, c4, c5, c6, c7, c8, c9] := by
    have := h3.set_ 3 v3
    simpa only [List.setIfInBounds_toArray, List.set_cons_succ, List.set_cons_zero] using this
  have h5 : Blk (((((W.setCell ⟨R, 0, none⟩ v0).setCell ⟨R, 1, none⟩ v1).setCell ⟨R, 2, none⟩ v2).setCell ⟨R, 3, none⟩ v3).setCell ⟨R, 4, none⟩ v4) R t #[v0, v1, v2, v3, v4, c5, c6, c7, c8, c9] := by
    have := h4.set_ 4 v4
    simpa only [List.setIfInBounds_toArray, List.set_cons_succ, List.set_cons_zero] using this
  have h6 : Blk ((((((W.setCell ⟨R, 0, none⟩ v0).setCell ⟨R, 1, none⟩ v1).setCell ⟨R, 2, none⟩ v2).setCell ⟨R, 3, none⟩ v3).setCell ⟨R, 4, none⟩ v4).setCell ⟨R, 5, none⟩ v5) R t #[v0, v1, v2, v3, v4, v5, c6, c7, c8, c9] := by
    have := h5.set_ 5 v5
    simpa only [List.setIfInBounds_toArray, List.set_cons_succ, List.set_cons_zero] using this
  have h7 : Blk (((((((W.setCell ⟨R, 0, none⟩ v0).setCell ⟨R, 1, none⟩ v1).setCell ⟨R, 2, none⟩ v2).setCell ⟨R, 3, none⟩ v3).setCell ⟨R, 4, none⟩ v4).setCell ⟨R, 5, none⟩ v5).setCell ⟨R, 6, none⟩ v6) R t #[v0, v1, v2, v3, v4, v5, v6, c7, c8, c9] := by
    have := h6.set_ 6 v6
    simpa only [List.setIfInBounds_toArray, List.set_cons_succ, List.set_cons_zero] using this
  have h8 : Blk ((((((((W.setCell ⟨R, 0, none⟩ v0).setCell ⟨R, 1, none⟩ v1).setCell ⟨R, 2, none⟩ v2).setCell ⟨R, 3, none⟩ v3).setCell ⟨R, 4, none⟩ v4).setCell ⟨R, 5, none⟩ v5).setCell ⟨R, 6, none⟩ v6).setCell ⟨R, 7, none⟩ v7) R t #[v0, v1, v2, v3, v4, v5, v6, v7, c8, c9] := by
    have := h7.set_ 7 v7
    simpa only [List.setIfInBounds_toArray, List.set_cons_succ, List.set_cons_zero] using this
  have h9 : Blk (((((((((W.setCell ⟨R, 0, none⟩ v0).setCell ⟨R, 1, none⟩ v1).setCell ⟨R, 2, none⟩ v2).setCell ⟨R, 3, none⟩ v3).setCell ⟨R, 4, none⟩ v4).setCell ⟨R, 5, none⟩ v5).setCell ⟨R, 6, none⟩ v6).setCell ⟨R, 7, none⟩ v7).setCell ⟨R, 8, none⟩ v8) R t #[v0, v1, v2, v3, v4, v5, v6, v7, v8, c9] := by
    have := h8.set_ 8 v8
    simpa only [List.setIfInBounds_toArray, List.set_cons_succ, List.set_cons_zero] using this
  have h10 : Blk ((((((((((W.setCell ⟨R, 0, none⟩ v0).setCell ⟨R, 1, none⟩ v1).setCell ⟨R, 2, none⟩ v2).setCell ⟨R, 3, none⟩ v3).setCell ⟨R, 4, none⟩ v4).setCell ⟨R, 5, none⟩ v5).setCell ⟨R, 6, none⟩ v6).setCell ⟨R, 7, none⟩ v7).setCell ⟨R, 8, none⟩ v8).setCell ⟨R, 9, none⟩ v9) R t #[v0, v1, v2, v3, v4, v5, v6, v7, v8, v9] := by
    have := h9.set_ 9 v9
    simpa only [List.setIfInBounds_toArray, List.set_cons_succ, List.set_cons_zero] using this
  exact h10
theorem set10_below {B : Nat} (hR : B ≤ R) : Below B W (set10 W R v0 v1 v2 v3 v4 v5 v6 v7 v8 v9) := Below.setCell (Below.setCell (Below.setCell (Below.setCell (Below.setCell (Below.setCell (Below.setCell (Below.setCell (Below.setCell (Below.setCell (Below.refl _ _) (p := ⟨R, 0, none⟩) hR _) (p := ⟨R, 1, none⟩) hR _) (p := ⟨R, 2, none⟩) hR _) (p := ⟨R, 3, none⟩) hR _) (p := ⟨R, 4, none⟩) hR _) (p := ⟨R, 5, none⟩) hR _) (p := ⟨R, 6, none⟩) hR _) (p := ⟨R, 7, none⟩) hR _) (p := ⟨R, 8, none⟩) hR _) (p := ⟨R, 9, none⟩) hR _
theorem set10_far {k : Nat} (hk : k ≠ R) : (set10 W R v0 v1 v2 v3 v4 v5 v6 v7 v8 v9).heap[k]? = W.heap[k]? := by
  unfold set10
  rw [Below.heap_setCell _ _ _ _ hk, Below.heap_setCell _ _ _ _ hk, Below.heap_setCell _ _ _ _ hk, Below.heap_setCell _ _ _ _ hk, Below.heap_setCell _ _ _ _ hk, Below.heap_setCell _ _ _ _ hk, Below.heap_setCell _ _ _ _ hk, Below.heap_setCell _ _ _ _ hk, Below.heap_setCell _ _ _ _ hk, Below.heap_setCell _ _ _ _ hk]
theorem frz10 {cs : Array Value} (h : Blk W R t cs) : W.frozen? ⟨R, 0, none⟩ = false ∧ W.frozen? ⟨R, 1, none⟩ = false ∧ W.frozen? ⟨R, 2, none⟩ = false ∧ W.frozen? ⟨R, 3, none⟩ = false ∧ W.frozen? ⟨R, 4, none⟩ = false ∧ W.frozen? ⟨R, 5, none⟩ = false ∧ W.frozen? ⟨R, 6, none⟩ = false ∧ W.frozen? ⟨R, 7, none⟩ = false ∧ W.frozen? ⟨R, 8, none⟩ = false ∧ W.frozen? ⟨R, 9, none⟩ = false := ⟨h.frozen 0, h.frozen 1, h.frozen 2, h.frozen 3, h.frozen 4, h.frozen 5, h.frozen 6, h.frozen 7, h.frozen 8, h.frozen 9⟩
theorem set10_size : (set10 W R v0 v1 v2 v3 v4 v5 v6 v7 v8 v9).heap.size = W.heap.size := by unfold set10; simp [World.setCell]
end
/-- Every block but R is as it was; the heap is no smaller. -/
structure But (R : Nat) (w w' : World) : Prop where
  size : w.heap.size ≤ w'.heap.size
  block : ∀ k, k < w.heap.size → k ≠ R → w'.heap[k]? = w.heap[k]?
theorem RX.but {w w' : World} {A : Option Addr} {n c size R : Nat} {vs : List Value} (h : RX w w.heap.size A n c size vs) (hb : But R w w') (hA : ∀ ad, A = some ad → ad.block ≠ R) : RX w' w'.heap.size A n c size vs :=
  ⟨h.1, h.2.1, fun hn => by
    obtain ⟨b, off, e, hlt, hc⟩ := h.2.2 hn
    refine ⟨b, off, e, by have := hb.size; omega, fun j v hj => ?_⟩
    rw [← hc j v hj]
    exact World.cell?_of_block (hb.block b hlt (hA _ e))⟩
theorem R8.but {w w' : World} {A : Option Addr} {n c R : Nat} {l : List UInt8} (h : R8 w w.heap.size A n c l) (hb : But R w w') (hA : ∀ ad, A = some ad → ad.block ≠ R) : R8 w' w'.heap.size A n c l :=
  ⟨h.1, h.2.1, fun hn => by
    obtain ⟨b, off, e, hlt, hc⟩ := h.2.2 hn
    refine ⟨b, off, e, by have := hb.size; omega, fun j hj => ?_⟩
    rw [← hc j hj]
    exact World.cell?_of_block (hb.block b hlt (hA _ e))⟩
theorem R32.but {w w' : World} {A : Option Addr} {n c R : Nat} {l : List Nat} (h : R32 w w.heap.size A n c l) (hb : But R w w') (hA : ∀ ad, A = some ad → ad.block ≠ R) : R32 w' w'.heap.size A n c l :=
  ⟨h.1, h.2.1, h.2.2.1, fun hn => by
    obtain ⟨b, off, e, hlt, hc⟩ := h.2.2.2 hn
    refine ⟨b, off, e, by have := hb.size; omega, fun j hj => ?_⟩
    rw [← hc j hj]
    exact World.cell?_of_block (hb.block b hlt (hA _ e))⟩
/-- A report's slices lie in blocks from lo on, below hi. -/
def Rv.Lies (x : Rv) (lo hi : Nat) : Prop := ∀ ad, (x.At = some ad ∨ x.Aa = some ad ∨ x.An = some ad ∨ x.Ab = some ad) → lo ≤ ad.block ∧ ad.block < hi
def Rv.Off (x : Rv) (R : Nat) : Prop := ∀ ad, (x.At = some ad ∨ x.Aa = some ad ∨ x.An = some ad ∨ x.Ab = some ad) → ad.block ≠ R
theorem IsR.but {w w' : World} {x : Rv} {R : Nat} (h : IsR w w.heap.size x) (hb : But R w w') (hA : x.Off R) : IsR w' w'.heap.size x :=
  ⟨⟨h.tups.1, h.tups.2.1, h.tups.2.2.but hb fun ad e => hA ad (.inl e)⟩, h.abouts.but hb fun ad e => hA ad (.inr (.inl e)), ⟨h.nums.1, h.nums.2.1, h.nums.2.2.but hb fun ad e => hA ad (.inr (.inr (.inl e)))⟩, h.body.but hb fun ad e => hA ad (.inr (.inr (.inr e))), h.kinds⟩
theorem but_set10 (W : World) (R : Nat) (v0 v1 v2 v3 v4 v5 v6 v7 v8 v9 : Value) : But R W (set10 W R v0 v1 v2 v3 v4 v5 v6 v7 v8 v9) := ⟨by rw [set10_size]; exact Nat.le_refl _, fun k _ hk => set10_far hk⟩
theorem but_setCell (W : World) (R i : Nat) (v : Value) : But R W (W.setCell ⟨R, i, none⟩ v) := ⟨by simp [World.setCell], fun k _ hk => Below.heap_setCell _ _ _ _ hk⟩
theorem but_grown {w w' : World} {row : Option Nat} {R : Nat} (h : w.grownBy w' row) (hr : ∀ k, row = some k → k = R) : But R w w' := ⟨h.size, fun k hk hne => h.block k hk fun e => hne (hr k e.symm)⟩
theorem But.of_below {w w' : World} (R : Nat) (h : Below w.heap.size w w') : But R w w' := ⟨h.size, fun k hk _ => h.block k hk⟩
theorem Rep.In.of {kind : Int} {src about : Nat} {tups : List Tup} {abouts : List Nat} {nums : List Int} {rate : Nat} {ty count : Int} {body : List UInt8} (h1 : I64 kind) (h2 : src < 4294967296) (h3 : about < 4294967296) (h4 : rate < 18446744073709551616) (h5 : I64 ty) (h6 : I64 count)
    (h7 : tups.length ≤ 140737488355328) (h8 : abouts.length ≤ 140737488355328) (h9 : nums.length ≤ 140737488355328) (h10 : body.length ≤ 140737488355328) : Rep.In ⟨kind, src, about, tups, abouts, nums, rate, ty, count, body⟩ := ⟨h1, h2, h3, h4, h5, h6, h7, h8, h9, h10⟩
theorem i64_small {k : Int} (h : 0 ≤ k ∧ k ≤ 1000) : I64 k := by unfold I64; omega
/-- A report's slices lie in blocks that hold no reports. -/
def Rv.Typed (x : Rv) (w : World) : Prop := ∀ ad, (x.At = some ad ∨ x.Aa = some ad ∨ x.An = some ad ∨ x.Ab = some ad) → ∀ cs fr, w.heap[ad.block]? ≠ some (.cells cs 33 fr)
theorem Rv.Typed.same {x : Rv} {w w' : World} {R : Nat} (h : x.Typed w) (ho : x.Off R) (hb : ∀ k, k ≠ R → w'.heap[k]? = w.heap[k]?) : x.Typed w' := fun ad had cs fr e => h ad had cs fr (by rw [← hb _ (ho ad had)]; exact e)
theorem Rv.Typed.on {x : Rv} {w w' : World} {lo : Nat} (h : x.Typed w) (hl : x.Lies lo w.heap.size) (hb : Below w.heap.size w w') : x.Typed w' := fun ad had cs fr e => h ad had cs fr (by rw [← hb.block _ (hl ad had).2]; exact e)
theorem own_typed {w : World} {base size n m c : Nat} {e : TypeId} {A : Option Addr} {xs : List Value} (h : w.ownsRow base e size (.slice A n c) m xs) (he : e ≠ 33) : ∀ ad, A = some ad → ∀ cs fr, w.heap[ad.block]? ≠ some (.cells cs 33 fr) := by
  intro ad hA cs fr hh
  rcases h.2 with ⟨hv, _⟩ | ⟨g, cap, cur, hv, _, hg, _⟩
  · subst hA
    cases hv
  · subst hA
    injection hv with e1 _ _
    injection e1 with e1
    subst e1
    simp only at hh
    rw [hg] at hh
    injection hh with hh
    injection hh with _ h2 _
    exact he h2
/-- A new report that reads as r. -/
def NewRep (w : World) (r : Rep) (e : Ending) (w' : World) : Prop := ∃ x : Rv, e = .returned x.val ∧ x.r = r ∧ IsR w' w'.heap.size x ∧ x.Lies w.heap.size w'.heap.size ∧ x.Typed w' ∧ Below w.heap.size w w'
/-- A row that the call owns stays where another block is written. -/
theorem own_but {w w' : World} {base size n R : Nat} {e : TypeId} {v : Value} {xs : List Value} (h : w.ownsRow base e size v n xs) (hs : w.heap.size ≤ w'.heap.size) (hb : ∀ k, k < w.heap.size → k ≠ R → w'.heap[k]? = w.heap[k]?) (hv : v.ownBlock ≠ some R) : w'.ownsRow base e size v n xs := by
  rcases h.2 with h2 | ⟨g, cap, cur, hv', h3, h4, h5⟩
  · exact ⟨h.1, .inl h2⟩
  · refine ⟨h.1, .inr ⟨g, cap, cur, hv', h3, ?_, h5⟩⟩
    subst hv'
    have hg : g ≠ R := fun e => hv (by subst e; rfl)
    have hlt : g < w.heap.size := (Array.getElem?_eq_some_iff.1 h4).1
    rw [hb g hlt hg]
    exact h4
end Go.Proofs.Ytnchgmemajmkjaa
