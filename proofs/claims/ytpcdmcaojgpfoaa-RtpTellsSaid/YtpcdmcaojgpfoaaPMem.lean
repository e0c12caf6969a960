/- A packet that is being made, in memory, while a tape is read. No program's function. -/
import Derived.Test.YtpcdmcaojgpfoaaCTapeE
namespace Go.Proofs.Ytpcdmcaojgpfoaa
open Go.RowKit
set_option linter.unusedVariables false
set_option linter.unusedSimpArgs false
set_option maxRecDepth 20000

def zeroP : Array Value := #[.bool false, .int .i64 0, .int .u16 0, .int .u32 0, .int .u32 0, .slice none 0 0, .int .u16 0, .slice none 0 0, .slice none 0 0]
def pcells (p : Pkt) (u : Value) (A2 : Option Addr) (c2 : Nat) (A3 : Option Addr) (c3 : Nat) : Array Value :=
  #[.bool p.m, .int .i64 p.ty, .int .u16 (p.seq : Int), .int .u32 (p.time : Int), .int .u32 (p.ssrc : Int), u, .int .u16 (p.prof : Int), .slice A2 p.ext.length c2, .slice A3 p.pay.length c3]
/-- Block R: the result's, still nought; block L: the packet; its Csrc a row of its own from base on. -/
structure PMem (g : Nat) (w wr : World) (R L base : Nat) (p : Pkt) (u : Value) (A2 : Option Addr) (c2 : Nat) (A3 : Option Addr) (c3 : Nat) : Prop where
  res : wr.heap[R]? = some (.cells zeroP 28 (0, 0))
  blk : wr.heap[L]? = some (.cells (pcells p u A2 c2 A3 c3) 28 (0, 0))
  own : Own32 wr base u p.csrc
  ext : R8 wr wr.heap.size A2 p.ext.length c2 p.ext
  pay : R8 wr wr.heap.size A3 p.pay.length c3 p.pay
  extFar : ∀ ad, A2 = some ad → ad.block ≠ L ∧ u.ownBlock ≠ some ad.block ∧ ad.block < wr.heap.size
  payFar : ∀ ad, A3 = some ad → ad.block ≠ L ∧ u.ownBlock ≠ some ad.block ∧ ad.block < wr.heap.size
  moves : Moves g w wr
  ord : g < w.heap.size ∧ w.heap.size ≤ R ∧ R < L ∧ L < base ∧ base ≤ wr.heap.size
section
variable {g : Nat} {w wr w' : World} {R L base : Nat} {p : Pkt} {u : Value} {A2 A3 : Option Addr} {c2 c3 : Nat}
theorem PMem.step (h : PMem g w wr R L base p u A2 c2 A3 c3) (hm : Moves g wr w') : PMem g w w' R L base p u A2 c2 A3 c3 := by
  obtain ⟨o1, o2, o3, o4, o5⟩ := h.ord
  have hs := hm.below.size
  refine ⟨(hm.other R (by omega) (by omega)).trans h.res, (hm.other L (by omega) (by omega)).trans h.blk, own_moves h.own (by omega) hm, h.ext.moves h.moves.tape hm, h.pay.moves h.moves.tape hm, fun ad hA => ?_, fun ad hA => ?_, h.moves.trans hm, o1, o2, o3, o4, by omega⟩
  · obtain ⟨a, b, c⟩ := h.extFar ad hA
    exact ⟨a, b, by omega⟩
  · obtain ⟨a, b, c⟩ := h.payFar ad hA
    exact ⟨a, b, by omega⟩
theorem PMem.on (h : PMem g w wr R L base p u A2 c2 A3 c3) (hb : Below wr.heap.size wr w') : PMem g w w' R L base p u A2 c2 A3 c3 := h.step (Moves.of h.moves.tape hb)
theorem PMem.cells (h : PMem g w wr R L base p u A2 c2 A3 c3) : wr.cell? ⟨L, 0, none⟩ = some (.bool p.m) ∧ wr.cell? ⟨L, 1, none⟩ = some (.int .i64 p.ty) ∧ wr.cell? ⟨L, 2, none⟩ = some (.int .u16 (p.seq : Int)) ∧ wr.cell? ⟨L, 3, none⟩ = some (.int .u32 (p.time : Int)) ∧
    wr.cell? ⟨L, 4, none⟩ = some (.int .u32 (p.ssrc : Int)) ∧ wr.cell? ⟨L, 5, none⟩ = some u ∧ wr.cell? ⟨L, 6, none⟩ = some (.int .u16 (p.prof : Int)) ∧ wr.cell? ⟨L, 7, none⟩ = some (.slice A2 p.ext.length c2) ∧ wr.cell? ⟨L, 8, none⟩ = some (.slice A3 p.pay.length c3) := by
  simp [World.cell?, h.blk, pcells]
theorem PMem.soft (h : PMem g w wr R L base p u A2 c2 A3 c3) (i : Nat) : wr.frozen? ⟨L, i, none⟩ = false := by
  simp [World.frozen?, h.blk]
/-- A field is written: what stands besides stays. -/
theorem PMem.set {p' : Pkt} {u' : Value} {A2' : Option Addr} {c2' : Nat} (h : PMem g w wr R L base p u A2 c2 A3 c3) (i : Nat) (x : Value) (hc : (pcells p u A2 c2 A3 c3).setIfInBounds i x = pcells p' u' A2' c2' A3 c3)
    (hown : Own32 wr base u' p'.csrc) (hext : R8 wr wr.heap.size A2' p'.ext.length c2' p'.ext) (hpay : p'.pay = p.pay) (hef : ∀ ad, A2' = some ad → ad.block ≠ L ∧ u'.ownBlock ≠ some ad.block ∧ ad.block < wr.heap.size) (hpf : ∀ ad, A3 = some ad → u'.ownBlock ≠ some ad.block) :
    PMem g w (wr.setCell ⟨L, i, none⟩ x) R L base p' u' A2' c2' A3 c3 := by
  obtain ⟨o1, o2, o3, o4, o5⟩ := h.ord
  have hb : Below w.heap.size wr (wr.setCell ⟨L, i, none⟩ x) := (Below.refl _ wr).setCell (p := ⟨L, i, none⟩) (by simp only; omega) _
  have hs := hb.size
  refine ⟨(Below.heap_setCell _ _ _ _ (by simp only; omega)).trans h.res, ?_, ownsRow_setCell_other hown (a := ⟨L, i, none⟩) ?_ _, hext.setCell (fun ad hA => (hef ad hA).1) _, ?_, fun ad hA => ?_, fun ad hA => ?_, h.moves.and o1 hb, o1, o2, o3, o4, by omega⟩
  · have := Blk.set_ (w := wr) (g := L) h.blk i x
    rw [hc] at this
    exact this
  · intro e
    have := (World.ownsRow.lt hown _ e).1
    simp only at this
    omega
  · rw [hpay]
    exact h.pay.setCell (fun ad hA => (h.payFar ad hA).1) _
  · obtain ⟨a, b, c⟩ := hef ad hA
    exact ⟨a, b, by omega⟩
  · obtain ⟨a, b, c⟩ := h.payFar ad hA
    exact ⟨a, hpf ad hA, by omega⟩
/-- Behind an append onto Csrc (not yet stored): the same packet, and the new row. -/
theorem PMem.app {W w3 : World} {x : Nat} {v : Value} (h : PMem g w W R L base p u A2 c2 A3 c3) (ha : AppG W base 24 1 u (p.csrc.length + 1) (p.csrc.map wv ++ [wv x]) v w3) :
    w3.heap[R]? = some (.cells zeroP 28 (0, 0)) ∧ w3.heap[L]? = some (.cells (pcells p u A2 c2 A3 c3) 28 (0, 0)) ∧ Own32 w3 base v (p.csrc ++ [x]) ∧ R8 w3 w3.heap.size A2 p.ext.length c2 p.ext ∧ R8 w3 w3.heap.size A3 p.pay.length c3 p.pay ∧
    (∀ ad, A2 = some ad → ad.block ≠ L ∧ v.ownBlock ≠ some ad.block ∧ ad.block < w3.heap.size) ∧ (∀ ad, A3 = some ad → ad.block ≠ L ∧ v.ownBlock ≠ some ad.block ∧ ad.block < w3.heap.size) ∧ Moves g w w3 ∧ base ≤ w3.heap.size := by
  obtain ⟨o1, o2, o3, o4, o5⟩ := h.ord
  have h2 := h
  have hb : Below base W w3 := AppG.below ha (Below.refl _ _) (by omega) h2.own (Nat.le_refl _)
  have hs := hb.size
  have hfar : ∀ {A : Option Addr}, (∀ ad, A = some ad → ad.block ≠ L ∧ u.ownBlock ≠ some ad.block ∧ ad.block < W.heap.size) → ∀ ad, A = some ad → ad.block ≠ L ∧ v.ownBlock ≠ some ad.block ∧ ad.block < w3.heap.size := fun hf ad hA => by
    obtain ⟨a, b, c⟩ := hf ad hA
    refine ⟨a, ?_, by omega⟩
    rcases ha.2.2 with e | e
    · rw [e]
      exact b
    · rw [e]
      intro e'
      have := Option.some.inj e'
      omega
  refine ⟨(hb.block R (by omega)).trans h2.res, (hb.block L o4).trans h2.blk, ?_, h2.ext.grown ha.2.1 fun ad hA => (h.extFar ad hA).2.1, h2.pay.grown ha.2.1 fun ad hA => (h.payFar ad hA).2.1, hfar h.extFar, hfar h.payFar, h2.moves.and o1 (hb.mono (by omega)), by omega⟩
  have := ha.1
  unfold Own32
  rw [List.length_append, List.map_append]
  exact this
theorem PMem.push {W w3 : World} {x : Nat} {v : Value} (h : PMem g w W R L base p u A2 c2 A3 c3) (ha : AppG W base 24 1 u (p.csrc.length + 1) (p.csrc.map wv ++ [wv x]) v w3) :
    PMem g w (w3.setCell ⟨L, 5, none⟩ v) R L base { p with csrc := p.csrc ++ [x] } v A2 c2 A3 c3 := by
  obtain ⟨o1, o2, o3, o4, o5⟩ := h.ord
  obtain ⟨a1, a2, a3, a4, a5, a6, a7, a8, a9⟩ := h.app ha
  have hb : Below w.heap.size w3 (w3.setCell ⟨L, 5, none⟩ v) := (Below.refl _ w3).setCell (p := ⟨L, 5, none⟩) (by simp only; omega) _
  have hs := hb.size
  refine ⟨(Below.heap_setCell _ _ _ _ (by simp only; omega)).trans a1, ?_, ownsRow_setCell_other a3 (a := ⟨L, 5, none⟩) ?_ _, a4.setCell (fun ad hA => (a6 ad hA).1) _, a5.setCell (fun ad hA => (a7 ad hA).1) _, fun ad hA => ?_, fun ad hA => ?_, a8.and o1 hb, o1, o2, o3, o4, by omega⟩
  · have := Blk.set_ (w := w3) (g := L) a2 5 v
    exact this
  · intro e
    have := (World.ownsRow.lt a3 _ e).1
    simp only at this
    omega
  · obtain ⟨a, b, c⟩ := a6 ad hA
    exact ⟨a, b, by omega⟩
  · obtain ⟨a, b, c⟩ := a7 ad hA
    exact ⟨a, b, by omega⟩
end
end Go.Proofs.Ytpcdmcaojgpfoaa
