/- A control message that is being made, in memory, while a tape is read; eight cells written over whole. No program's function. -/
import Derived.Test.YtgjncaobcgjefaaCtT
namespace Go.Proofs.Ytgjncaobcgjefaa
open Go.RowKit
set_option linter.unusedVariables false
set_option linter.unusedSimpArgs false
set_option maxRecDepth 20000

def set8 (W : World) (R : Nat) (v0 v1 v2 v3 v4 v5 v6 v7 : Value) : World := ((((((((W.setCell ⟨R, 0, none⟩ v0).setCell ⟨R, 1, none⟩ v1).setCell ⟨R, 2, none⟩ v2).setCell ⟨R, 3, none⟩ v3).setCell ⟨R, 4, none⟩ v4).setCell ⟨R, 5, none⟩ v5).setCell ⟨R, 6, none⟩ v6).setCell ⟨R, 7, none⟩ v7)
section
variable {W : World} {R : Nat} {t : TypeId} {c0 c1 c2 c3 c4 c5 c6 c7 v0 v1 v2 v3 v4 v5 v6 v7 : Value}
theorem set8_blk (h : Blk W R t #[c0, c1, c2, c3, c4, c5, c6, c7]) : Blk (set8 W R v0 v1 v2 v3 v4 v5 v6 v7) R t #[v0, v1, v2, v3, v4, v5, v6, v7] := by
  have h1 : Blk (W.setCell ⟨R, 0, none⟩ v0) R t #[v0, c1, c2, c3, c4, c5, c6, c7] := by
    have := h.set_ 0 v0
    simpa only [List.setIfInBounds_toArray, List.set_cons_succ, List.set_cons_zero] using this
  have h2 : Blk ((W.setCell ⟨R, 0, none⟩ v0).setCell ⟨R, 1, none⟩ v1) R t #[v0, v1, c2, c3, c4, c5, c6, c7] := by
    have := h1.set_ 1 v1
    simpa only [List.setIfInBounds_toArray, List.set_cons_succ, List.set_cons_zero] using this
  have h3 : Blk (((W.setCell ⟨R, 0, none⟩ v0).setCell ⟨R, 1, none⟩ v1).setCell ⟨R, 2, none⟩ v2) R t #[v0, v1, v2, c3, c4, c5, c6, c7] := by
    have := h2.set_ 2 v2
    simpa only [List.setIfInBounds_toArray, List.set_cons_succ, List.set_cons_zero] using this
  have h4 : Blk ((((W.setCell ⟨R, 0, none⟩ v0).setCell ⟨R, 1, none⟩ v1).setCell ⟨R, 2, none⟩ v2).setCell ⟨R, 3, none⟩ v3) R t #[v0, v1, v2, v3, c4, c5, c6, c7] := by
    have := h3.set_ 3 v3
    simpa only [List.setIfInBounds_toArray, List.set_cons_succ, List.set_cons_zero] using this
  have h5 : Blk (((((W.setCell ⟨R, 0, none⟩ v0).setCell ⟨R, 1, none⟩ v1).setCell ⟨R, 2, none⟩ v2).setCell ⟨R, 3, none⟩ v3).setCell ⟨R, 4, none⟩ v4) R t #[v0, v1, v2, v3, v4, c5, c6, c7] := by
    have := h4.set_ 4 v4
    simpa only [List.setIfInBounds_toArray, List.set_cons_succ, List.set_cons_zero] using this
  have h6 : Blk ((((((W.setCell ⟨R, 0, none⟩ v0).setCell ⟨R, 1, none⟩ v1).setCell ⟨R, 2, none⟩ v2).setCell ⟨R, 3, none⟩ v3).setCell ⟨R, 4, none⟩ v4).setCell ⟨R, 5, none⟩ v5) R t #[v0, v1, v2, v3, v4, v5, c6, c7] := by
    have := h5.set_ 5 v5
    simpa only [List.setIfInBounds_toArray, List.set_cons_succ, List.set_cons_zero] using this
  have h7 : Blk (((((((W.setCell ⟨R, 0, none⟩ v0).setCell ⟨R, 1, none⟩ v1).setCell ⟨R, 2, none⟩ v2).setCell ⟨R, 3, none⟩ v3).setCell ⟨R, 4, none⟩ v4).setCell ⟨R, 5, none⟩ v5).setCell ⟨R, 6, none⟩ v6) R t #[v0, v1, v2, v3, v4, v5, v6, c7] := by
    have := h6.set_ 6 v6
    simpa only [List.setIfInBounds_toArray, List.set_cons_succ, List.set_cons_zero] using this
  have h8 : Blk ((((((((W.setCell ⟨R, 0, none⟩ v0).setCell ⟨R, 1, none⟩ v1).setCell ⟨R, 2, none⟩ v2).setCell ⟨R, 3, none⟩ v3).setCell ⟨R, 4, none⟩ v4).setCell ⟨R, 5, none⟩ v5).setCell ⟨R, 6, none⟩ v6).setCell ⟨R, 7, none⟩ v7) R t #[v0, v1, v2, v3, v4, v5, v6, v7] := by
    have := h7.set_ 7 v7
    simpa only [List.setIfInBounds_toArray, List.set_cons_succ, List.set_cons_zero] using this
  exact h8
theorem set8_below {B : Nat} (hR : B ≤ R) : Below B W (set8 W R v0 v1 v2 v3 v4 v5 v6 v7) := (Below.setCell (Below.setCell (Below.setCell (Below.setCell (Below.setCell (Below.setCell (Below.setCell (Below.setCell (Below.refl _ _) (p := ⟨R, 0, none⟩) hR _) (p := ⟨R, 1, none⟩) hR _) (p := ⟨R, 2, none⟩) hR _) (p := ⟨R, 3, none⟩) hR _) (p := ⟨R, 4, none⟩) hR _) (p := ⟨R, 5, none⟩) hR _) (p := ⟨R, 6, none⟩) hR _) (p := ⟨R, 7, none⟩) hR _)
theorem blk8f (h : Blk W R t #[v0, v1, v2, v3, v4, v5, v6, v7]) : W.frozen? ⟨R, 0, none⟩ = false ∧ W.frozen? ⟨R, 1, none⟩ = false ∧ W.frozen? ⟨R, 2, none⟩ = false ∧ W.frozen? ⟨R, 3, none⟩ = false ∧ W.frozen? ⟨R, 4, none⟩ = false ∧ W.frozen? ⟨R, 5, none⟩ = false ∧ W.frozen? ⟨R, 6, none⟩ = false ∧ W.frozen? ⟨R, 7, none⟩ = false :=
  ⟨h.frozen 0, h.frozen 1, h.frozen 2, h.frozen 3, h.frozen 4, h.frozen 5, h.frozen 6, h.frozen 7⟩
end
def zeroCt : Array Value := #[.int .i64 0, .int .i64 0, .slice none 0 0, .int .i64 0, .int .i64 0, .int .i64 0, .int .i64 0, .int .i64 0]
/-- Block R: the result's, still nought; block L: the message. -/
structure CMem (g : Nat) (w : World) (R L : Nat) (cs : Array Value) (W : World) : Prop where
  res : Blk W R 25 zeroCt
  blk : Blk W L 25 cs
  moves : Moves g w W
  ord : g < w.heap.size ∧ w.heap.size ≤ R ∧ R < L ∧ L < W.heap.size
section
variable {g : Nat} {w W W' : World} {R L : Nat} {cs : Array Value}
theorem CMem.step (h : CMem g w R L cs W) (hm : Moves g W W') : CMem g w R L cs W' := by
  obtain ⟨o1, o2, o3, o4⟩ := h.ord
  have hs := hm.below.size
  exact ⟨(hm.other R (by omega) (by omega)).trans h.res, (hm.other L (by omega) (by omega)).trans h.blk, h.moves.trans hm, o1, o2, o3, by omega⟩
theorem CMem.set (h : CMem g w R L cs W) (i : Nat) (v : Value) : CMem g w R L (cs.setIfInBounds i v) (W.setCell ⟨L, i, none⟩ v) := by
  obtain ⟨o1, o2, o3, o4⟩ := h.ord
  have hb : Below w.heap.size W (W.setCell ⟨L, i, none⟩ v) := (Below.refl _ W).setCell (p := ⟨L, i, none⟩) (by simp only; omega) _
  have hs := hb.size
  exact ⟨(Below.heap_setCell _ _ _ _ (by simp only; omega)).trans h.res, h.blk.set_ i v, h.moves.and o1 hb, o1, o2, o3, by omega⟩
end
theorem RL.far {w : World} {n c : Nat} {A : Option Addr} {l : List Lay} (h : RL w w.heap.size A n c l) (p : Addr) (u : Value) (hA : ∀ ad, A = some ad → ad.block ≠ p.block) : RL (w.setCell p u) (w.setCell p u).heap.size A n c l :=
  ⟨h.1, h.2.1, h.2.2.1, h.2.2.2.1, fun hn => by
    obtain ⟨b, off, e, hlt, hc⟩ := h.2.2.2.2 hn
    refine ⟨b, off, e, by simpa [World.setCell] using hlt, fun j v hj => ?_⟩
    rw [World.cell?_setCell_other _ _ _ _ (by intro e'; have := congrArg Addr.block e'; exact hA _ e this.symm)]
    exact hc j v hj⟩
theorem RL.set8 {w : World} {n c R : Nat} {A : Option Addr} {l : List Lay} (h : RL w w.heap.size A n c l) (hA : ∀ ad, A = some ad → ad.block ≠ R) (v0 v1 v2 v3 v4 v5 v6 v7 : Value) : RL (set8 w R v0 v1 v2 v3 v4 v5 v6 v7) (set8 w R v0 v1 v2 v3 v4 v5 v6 v7).heap.size A n c l :=
  (((((((h.far ⟨R, 0, none⟩ v0 hA).far ⟨R, 1, none⟩ v1 hA).far ⟨R, 2, none⟩ v2 hA).far ⟨R, 3, none⟩ v3 hA).far ⟨R, 4, none⟩ v4 hA).far ⟨R, 5, none⟩ v5 hA).far ⟨R, 6, none⟩ v6 hA).far ⟨R, 7, none⟩ v7 hA
/-- A control message that may be, in new memory. -/
def CtlOut (g : Nat) (w : World) (e : Ending) (w' : World) : Prop :=
  ∃ (x : Ctl) (A : Option Addr) (c : Nat), e = .returned (x.val A c) ∧ x.Ok ∧ IsC w' w'.heap.size x A c ∧ x.layers.length ≤ 3 ∧ Moves g w w' ∧ ∀ ad, A = some ad → w.heap.size ≤ ad.block
end Go.Proofs.Ytgjncaobcgjefaa
