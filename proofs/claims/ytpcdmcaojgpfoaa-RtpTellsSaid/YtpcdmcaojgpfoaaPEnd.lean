/- A packet that is made, in memory, but for its extension. No program's function. -/
import Derived.Test.YtpcdmcaojgpfoaaPMem
import Derived.Test.YtpcdmcaojgpfoaaRegF
import Derived.Test.YtpcdmcaojgpfoaaCR3Right
namespace Go.Proofs.Ytpcdmcaojgpfoaa
open Go.RowKit
set_option linter.unusedVariables false
set_option linter.unusedSimpArgs false
set_option maxRecDepth 20000

structure PEnd (g : Nat) (w wr : World) (R L : Nat) (p : Pkt) (A1 : Option Addr) (c1 : Nat) (A2 : Option Addr) (c2 : Nat) (A3 : Option Addr) (c3 : Nat) : Prop where
  res : wr.heap[R]? = some (.cells zeroP 28 (0, 0))
  blk : wr.heap[L]? = some (.cells (pcells p (.slice A1 p.csrc.length c1) A2 c2 A3 c3) 28 (0, 0))
  csrc : R32 wr wr.heap.size A1 p.csrc.length c1 p.csrc
  csrcFar : ∀ ad, A1 = some ad → L < ad.block
  ext : R8 wr wr.heap.size A2 p.ext.length c2 p.ext
  pay : R8 wr wr.heap.size A3 p.pay.length c3 p.pay
  moves : Moves g w wr
  ord : g < w.heap.size ∧ w.heap.size ≤ R ∧ R < L ∧ L < wr.heap.size
theorem R32.setCell {w : World} {n c L o : Nat} {A : Option Addr} {l : List Nat} (h : R32 w w.heap.size A n c l) (hL : ∀ ad, A = some ad → ad.block ≠ L) (u : Value) : R32 (w.setCell ⟨L, o, none⟩ u) (w.setCell ⟨L, o, none⟩ u).heap.size A n c l :=
  ⟨h.1, h.2.1, h.2.2.1, fun hn => by
    obtain ⟨b, off, e, hlt, hc⟩ := h.2.2.2 hn
    have hs : w.heap.size ≤ (w.setCell ⟨L, o, none⟩ u).heap.size := ((Below.refl 0 w).setCell (p := ⟨L, o, none⟩) (Nat.zero_le _) u).size
    refine ⟨b, off, e, by omega, fun i hi => ?_⟩
    rw [← hc i hi]
    exact World.cell?_of_block (Below.heap_setCell _ _ _ b (show b ≠ L from hL _ e))⟩
/-- Where no cell of the block holds a byte, a slice of bytes lies elsewhere. -/
theorem R8.setCell' {w : World} {n c L o : Nat} {A : Option Addr} {l : List UInt8} (h : R8 w w.heap.size A n c l) (hL : ∀ o x, w.cell? ⟨L, o, none⟩ ≠ some (.int .u8 x)) (u : Value) : R8 (w.setCell ⟨L, o, none⟩ u) (w.setCell ⟨L, o, none⟩ u).heap.size A n c l :=
  ⟨h.1, h.2.1, fun hn => by
    obtain ⟨b, off, e, hlt, hc⟩ := h.2.2 hn
    have hne : b ≠ L := fun e' => by
      subst e'
      exact hL _ _ (hc 0 hn)
    have hs : w.heap.size ≤ (w.setCell ⟨L, o, none⟩ u).heap.size := ((Below.refl 0 w).setCell (p := ⟨L, o, none⟩) (Nat.zero_le _) u).size
    refine ⟨b, off, e, by omega, fun i hi => ?_⟩
    rw [← hc i hi]
    exact World.cell?_of_block (Below.heap_setCell _ _ _ b hne)⟩
theorem no8P {w : World} {L : Nat} {p : Pkt} {A1 A2 A3 : Option Addr} {n1 c1 c2 c3 : Nat} (h : w.heap[L]? = some (.cells (pcells p (.slice A1 n1 c1) A2 c2 A3 c3) 28 (0, 0))) (o : Nat) (x : Int) : w.cell? ⟨L, o, none⟩ ≠ some (.int .u8 x) := by
  simp only [World.cell?, h, pcells]
  match o with
  | 0 => simp
  | 1 => simp
  | 2 => simp
  | 3 => simp
  | 4 => simp
  | 5 => simp
  | 6 => simp
  | 7 => simp
  | 8 => simp
  | o + 9 => simp
section
variable {g : Nat} {w wr w' : World} {R L base : Nat} {p : Pkt} {A1 A2 A3 : Option Addr} {c1 c2 c3 : Nat}
theorem PMem.end_ (h : PMem g w wr R L base p (.slice A1 p.csrc.length c1) A2 c2 A3 c3) (hw : ∀ x ∈ p.csrc, x < 4294967296) : PEnd g w wr R L p A1 c1 A2 c2 A3 c3 := by
  obtain ⟨o1, o2, o3, o4, o5⟩ := h.ord
  obtain ⟨A, c, e, hr⟩ := h.own.r32 hw
  injection e with e1 e2 e3
  subst e1
  subst e3
  exact ⟨h.res, h.blk, hr, fun ad hA => by have := own_block h.own ad hA; omega, h.ext, h.pay, h.moves, o1, o2, o3, by omega⟩
theorem PEnd.step (h : PEnd g w wr R L p A1 c1 A2 c2 A3 c3) (hm : Moves g wr w') : PEnd g w w' R L p A1 c1 A2 c2 A3 c3 := by
  obtain ⟨o1, o2, o3, o4⟩ := h.ord
  have hs := hm.below.size
  exact ⟨(hm.other R (by omega) (by omega)).trans h.res, (hm.other L (by omega) (by omega)).trans h.blk, h.csrc.moves h.moves.tape hm, h.csrcFar, h.ext.moves h.moves.tape hm, h.pay.moves h.moves.tape hm, h.moves.trans hm, o1, o2, o3, by omega⟩
theorem PEnd.on (h : PEnd g w wr R L p A1 c1 A2 c2 A3 c3) (hb : Below wr.heap.size wr w') : PEnd g w w' R L p A1 c1 A2 c2 A3 c3 := h.step (Moves.of h.moves.tape hb)
theorem PEnd.set {p' : Pkt} {A2' : Option Addr} {c2' : Nat} (h : PEnd g w wr R L p A1 c1 A2 c2 A3 c3) (i : Nat) (x : Value) (hc : (pcells p (.slice A1 p.csrc.length c1) A2 c2 A3 c3).setIfInBounds i x = pcells p' (.slice A1 p'.csrc.length c1) A2' c2' A3 c3)
    (hcs : p'.csrc = p.csrc) (hext : R8 wr wr.heap.size A2' p'.ext.length c2' p'.ext) (hpay : p'.pay = p.pay) : PEnd g w (wr.setCell ⟨L, i, none⟩ x) R L p' A1 c1 A2' c2' A3 c3 := by
  obtain ⟨o1, o2, o3, o4⟩ := h.ord
  have hb : Below w.heap.size wr (wr.setCell ⟨L, i, none⟩ x) := (Below.refl _ wr).setCell (p := ⟨L, i, none⟩) (by simp only; omega) _
  have hs := hb.size
  have hno := fun o x => no8P h.blk o x
  refine ⟨(Below.heap_setCell _ _ _ _ (by simp only; omega)).trans h.res, ?_, ?_, h.csrcFar, hext.setCell' hno _, ?_, h.moves.and o1 hb, o1, o2, o3, by omega⟩
  · have := Blk.set_ (w := wr) (g := L) h.blk i x
    rw [hc] at this
    exact this
  · rw [hcs]
    exact h.csrc.setCell (fun ad hA e => by have := h.csrcFar ad hA; omega) _
  · rw [hpay]
    exact h.pay.setCell' hno _
theorem PEnd.cells (h : PEnd g w wr R L p A1 c1 A2 c2 A3 c3) : wr.cell? ⟨L, 0, none⟩ = some (.bool p.m) ∧ wr.cell? ⟨L, 1, none⟩ = some (.int .i64 p.ty) ∧ wr.cell? ⟨L, 2, none⟩ = some (.int .u16 (p.seq : Int)) ∧ wr.cell? ⟨L, 3, none⟩ = some (.int .u32 (p.time : Int)) ∧
    wr.cell? ⟨L, 4, none⟩ = some (.int .u32 (p.ssrc : Int)) ∧ wr.cell? ⟨L, 5, none⟩ = some (.slice A1 p.csrc.length c1) ∧ wr.cell? ⟨L, 6, none⟩ = some (.int .u16 (p.prof : Int)) ∧ wr.cell? ⟨L, 7, none⟩ = some (.slice A2 p.ext.length c2) ∧ wr.cell? ⟨L, 8, none⟩ = some (.slice A3 p.pay.length c3) := by
  simp [World.cell?, h.blk, pcells]
theorem PEnd.rcells (h : PEnd g w wr R L p A1 c1 A2 c2 A3 c3) : wr.cell? ⟨R, 0, none⟩ = some (.bool false) ∧ wr.cell? ⟨R, 1, none⟩ = some (.int .i64 0) ∧ wr.cell? ⟨R, 2, none⟩ = some (.int .u16 0) ∧ wr.cell? ⟨R, 3, none⟩ = some (.int .u32 0) ∧
    wr.cell? ⟨R, 4, none⟩ = some (.int .u32 0) ∧ wr.cell? ⟨R, 5, none⟩ = some (.slice none 0 0) ∧ wr.cell? ⟨R, 6, none⟩ = some (.int .u16 0) ∧ wr.cell? ⟨R, 7, none⟩ = some (.slice none 0 0) ∧ wr.cell? ⟨R, 8, none⟩ = some (.slice none 0 0) := by
  simp [World.cell?, h.res, zeroP]
theorem PEnd.rsoft (h : PEnd g w wr R L p A1 c1 A2 c2 A3 c3) (i : Nat) : wr.frozen? ⟨R, i, none⟩ = false := by
  simp [World.frozen?, h.res]
theorem PEnd.soft (h : PEnd g w wr R L p A1 c1 A2 c2 A3 c3) (i : Nat) : wr.frozen? ⟨L, i, none⟩ = false := by
  simp [World.frozen?, h.blk]
end
theorem noEP {w : World} {L : Nat} {p : Pkt} {A1 A2 A3 : Option Addr} {n1 c1 c2 c3 : Nat} (h : w.heap[L]? = some (.cells (pcells p (.slice A1 n1 c1) A2 c2 A3 c3) 28 (0, 0))) (o : Nat) (x : Int) (A : Option Addr) (n c : Nat) (h1 : w.cell? ⟨L, o, none⟩ = some (.int .i64 x)) : w.cell? ⟨L, o + 1, none⟩ ≠ some (.slice A n c) := by
  simp only [World.cell?, h, pcells] at h1 ⊢
  match o, h1 with
  | 0, h1 => simp at h1
  | 1, h1 => simp
  | 2, h1 => simp at h1
  | 3, h1 => simp at h1
  | 4, h1 => simp at h1
  | 5, h1 => simp at h1
  | 6, h1 => simp at h1
  | 7, h1 => simp at h1
  | 8, h1 => simp at h1
  | o + 9, h1 => simp at h1
def okExt (l : List UInt8) : Prop := l.length % 4 = 0 ∧ l.length ≤ 68
/-- The packet, whatever its extension. -/
def PAny (g : Nat) (w W : World) (R L : Nat) (p : Pkt) (A1 : Option Addr) (c1 : Nat) (A3 : Option Addr) (c3 : Nat) : Prop := ∃ A2 c2 ext, okExt ext ∧ PEnd g w W R L { p with ext := ext } A1 c1 A2 c2 A3 c3
def Same2 (g L : Nat) (a b : World) : Prop := a.heap.size ≤ b.heap.size ∧ ∀ k, k < a.heap.size → k ≠ g → k ≠ L → b.heap[k]? = a.heap[k]?
theorem PAny.tape {g : Nat} {w W : World} {R L : Nat} {p : Pkt} {A1 : Option Addr} {c1 : Nat} {A3 : Option Addr} {c3 : Nat} (h : PAny g w W R L p A1 c1 A3 c3) : TapeAt W g := by
  obtain ⟨A2, c2, ext, _, hE⟩ := h
  exact hE.moves.tape
theorem PAny.step {g : Nat} {w W W' : World} {R L : Nat} {p : Pkt} {A1 : Option Addr} {c1 : Nat} {A3 : Option Addr} {c3 : Nat} (h : PAny g w W R L p A1 c1 A3 c3) (hm : Moves g W W') : PAny g w W' R L p A1 c1 A3 c3 := by
  obtain ⟨A2, c2, ext, h1, hE⟩ := h
  exact ⟨A2, c2, ext, h1, hE.step hm⟩
/-- While a tape is read, at the packet's end. -/
def endF (g : Nat) (w : World) (R L : Nat) (p : Pkt) (A1 : Option Addr) (c1 : Nat) (A3 : Option Addr) (c3 : Nat) : Frame where
  I := fun W => PAny g w W R L p A1 c1 A3 c3
  Fr := Same2 g L
  refl := fun w _ => ⟨Nat.le_refl _, fun _ _ _ _ => rfl⟩
  trans := fun a b c h k => ⟨Nat.le_trans h.1 k.1, fun i hi hne hl => (k.2 i (by have := h.1; omega) hne hl).trans (h.2 i hi hne hl)⟩
  drew := fun W h => ⟨h.step (Moves.of h.tape (below_drewN _ W 1)), Nat.le_refl _, fun _ _ _ _ => rfl⟩
theorem Moves.same2 {g L : Nat} {a b : World} (h : Moves g a b) : Same2 g L a b := ⟨h.below.size, fun k hk hne _ => h.other k hk hne⟩
section
variable {g : Nat} {w : World} {R L : Nat} {p : Pkt} {A1 A3 : Option Addr} {c1 c3 : Nat} {v : Value} {W : World} {two : Bool}
/-- Bytes stay where only the tape moves, and the packet's own block. -/
theorem R8.frame {a b : World} {n c : Nat} {A : Option Addr} {l : List UInt8} (h : R8 a a.heap.size A n c l) (hI : PAny g w a R L p A1 c1 A3 c3) (hf : Same2 g L a b) : R8 b b.heap.size A n c l :=
  ⟨h.1, h.2.1, fun hn => by
    obtain ⟨q, off, e, hlt, hc⟩ := h.2.2 hn
    have hne : q ≠ g := fun e' => by
      subst e'
      exact hI.tape.no8 (hc 0 hn)
    have hnl : q ≠ L := fun e' => by
      subst e'
      obtain ⟨A2, c2, ext, _, hE⟩ := hI
      exact no8P hE.blk _ _ (hc 0 hn)
    refine ⟨q, off, e, by have := hf.1; omega, fun i hi => ?_⟩
    rw [← hc i hi]
    exact World.cell?_of_block (hf.2 q hlt hne hnl)⟩
theorem RE.frame {a b : World} {n c : Nat} {A : Option Addr} {E : List El} (h : RE a a.heap.size A n c E) (hI : PAny g w a R L p A1 c1 A3 c3) (hf : Same2 g L a b) : RE b b.heap.size A n c E :=
  ⟨h.1, h.2.1, fun e he => ⟨(h.2.2.1 e he).1, (h.2.2.1 e he).2.frame hI hf⟩, fun hn => by
    obtain ⟨q, off, e, hlt, hc⟩ := h.2.2.2 hn
    obtain ⟨k1, k2⟩ := cellsE_get E 0 (by rw [h.1]; exact hn)
    have d1 := hc _ _ k1
    have d2 := hc _ _ k2
    have hne : q ≠ g := fun e' => by
      subst e'
      obtain ⟨A', n', c', k', hg, _⟩ := hI.tape
      simp only [World.cell?, hg] at d1 d2
      match off, d1, d2 with
      | 0, d1, d2 => simp at d1
      | 1, d1, d2 => simp at d2
      | off + 2, d1, d2 => simp at d1
    have hnl : q ≠ L := fun e' => by
      subst e'
      obtain ⟨A2, c2, ext, _, hE⟩ := hI
      exact noEP hE.blk _ _ _ _ _ d1 d2
    refine ⟨q, off, e, by have := hf.1; omega, fun j v hj => ?_⟩
    rw [← hc j v hj]
    exact World.cell?_of_block (hf.2 q hlt hne hnl)⟩
end
/-- Elements; their bytes and whether they may be; the bytes alone. -/
def elC (g : Nat) (w : World) (R L : Nat) (p : Pkt) (A1 : Option Addr) (c1 : Nat) (A3 : Option Addr) (c3 : Nat) (two : Bool) : ClF (endF g w R L p A1 c1 A3 c3) :=
  .pred (fun v W => ∃ (A : Option Addr) (c : Nat) (E : List El), v = .slice A E.length c ∧ E.length ≤ 3 ∧ (∀ x ∈ E, ElIn two x) ∧ RE W W.heap.size A E.length c E) (fun v a b hI hf hb ⟨A, c, E, h1, h2, h3, h4⟩ => ⟨A, c, E, h1, h2, h3, h4.frame hI hf⟩)
def tupC (g : Nat) (w : World) (R L : Nat) (p : Pkt) (A1 : Option Addr) (c1 : Nat) (A3 : Option Addr) (c3 : Nat) : ClF (endF g w R L p A1 c1 A3 c3) :=
  .pred (fun v W => ∃ (A : Option Addr) (c : Nat) (l : List UInt8) (k : Int), v = .tuple #[.slice A l.length c, .int .i64 k] ∧ okExt l ∧ R8 W W.heap.size A l.length c l) (fun v a b hI hf hb ⟨A, c, l, k, h1, h2, h3⟩ => ⟨A, c, l, k, h1, h2, h3.frame hI hf⟩)
def extC (g : Nat) (w : World) (R L : Nat) (p : Pkt) (A1 : Option Addr) (c1 : Nat) (A3 : Option Addr) (c3 : Nat) : ClF (endF g w R L p A1 c1 A3 c3) :=
  .pred (fun v W => ∃ (A : Option Addr) (c : Nat) (l : List UInt8), v = .slice A l.length c ∧ okExt l ∧ R8 W W.heap.size A l.length c l) (fun v a b hI hf hb ⟨A, c, l, h1, h2, h3⟩ => ⟨A, c, l, h1, h2, h3.frame hI hf⟩)
section
variable {g : Nat} {w : World} {R L : Nat} {p : Pkt} {A1 A3 : Option Addr} {c1 c3 : Nat} {c : ClF (endF g w R L p A1 c1 A3 c3)} {v : Value} {W : World} {two : Bool}
theorem el_of (h : c.holds v W) (e : c = elC g w R L p A1 c1 A3 c3 two) : ∃ (A : Option Addr) (c : Nat) (E : List El), v = .slice A E.length c ∧ E.length ≤ 3 ∧ (∀ x ∈ E, ElIn two x) ∧ RE W W.heap.size A E.length c E := by subst e; exact h
theorem tup_of (h : c.holds v W) (e : c = tupC g w R L p A1 c1 A3 c3) : ∃ (A : Option Addr) (c : Nat) (l : List UInt8) (k : Int), v = .tuple #[.slice A l.length c, .int .i64 k] ∧ okExt l ∧ R8 W W.heap.size A l.length c l := by subst e; exact h
theorem ext_of (h : c.holds v W) (e : c = extC g w R L p A1 c1 A3 c3) : ∃ (A : Option Addr) (c : Nat) (l : List UInt8), v = .slice A l.length c ∧ okExt l ∧ R8 W W.heap.size A l.length c l := by subst e; exact h
end
/-! ### The packet handed out -/
def OnlyR (R : Nat) (a b : World) : Prop := a.heap.size ≤ b.heap.size ∧ ∀ k, k ≠ R → b.heap[k]? = a.heap[k]?
theorem OnlyR.refl (R : Nat) (a : World) : OnlyR R a a := ⟨Nat.le_refl _, fun _ _ => rfl⟩
theorem OnlyR.set {R : Nat} {a b : World} (h : OnlyR R a b) (i : Nat) (x : Value) : OnlyR R a (b.setCell ⟨R, i, none⟩ x) :=
  ⟨Nat.le_trans h.1 ((Below.refl 0 b).setCell (p := ⟨R, i, none⟩) (Nat.zero_le _) x).size, fun k hk => (Below.heap_setCell _ _ _ _ hk).trans (h.2 k hk)⟩
theorem R8.only {a b : World} {R n c : Nat} {A : Option Addr} {l : List UInt8} (h : R8 a a.heap.size A n c l) (hR : a.heap[R]? = some (.cells zeroP 28 (0, 0))) (hf : OnlyR R a b) : R8 b b.heap.size A n c l :=
  ⟨h.1, h.2.1, fun hn => by
    obtain ⟨q, off, e, hlt, hc⟩ := h.2.2 hn
    have hne : q ≠ R := fun e' => by
      subst e'
      have := hc 0 hn
      simp only [World.cell?, hR, zeroP, Nat.add_zero] at this
      match off, this with
      | 0, h => simp at h
      | 1, h => simp at h
      | 2, h => simp at h
      | 3, h => simp at h
      | 4, h => simp at h
      | 5, h => simp at h
      | 6, h => simp at h
      | 7, h => simp at h
      | 8, h => simp at h
      | o + 9, h => simp at h
    refine ⟨q, off, e, by have := hf.1; omega, fun i hi => ?_⟩
    rw [← hc i hi]
    exact World.cell?_of_block (hf.2 q hne)⟩
theorem R32.only {a b : World} {R n c : Nat} {A : Option Addr} {l : List Nat} (h : R32 a a.heap.size A n c l) (hA : ∀ ad, A = some ad → ad.block ≠ R) (hf : OnlyR R a b) : R32 b b.heap.size A n c l :=
  ⟨h.1, h.2.1, h.2.2.1, fun hn => by
    obtain ⟨q, off, e, hlt, hc⟩ := h.2.2.2 hn
    refine ⟨q, off, e, by have := hf.1; omega, fun i hi => ?_⟩
    rw [← hc i hi]
    exact World.cell?_of_block (hf.2 q (hA _ e))⟩
/-- What a tape's packet is. -/
def RtpOut (g : Nat) (w : World) (e : Ending) (w' : World) : Prop :=
  ∃ (p : Pkt) (A1 : Option Addr) (c1 : Nat) (A2 : Option Addr) (c2 : Nat) (A3 : Option Addr) (c3 : Nat), e = .returned (p.val A1 c1 A2 c2 A3 c3) ∧ IsP w' w'.heap.size A1 c1 A2 c2 A3 c3 p ∧ p.right = 0 ∧ p.csrc.length ≤ 3 ∧ p.pay.length ≤ 30 ∧ p.ext.length ≤ 68 ∧ Moves g w w'
/-- As RtpOut; the packet's words lie in new memory. -/
def RtpNew (g : Nat) (w : World) (e : Ending) (w' : World) : Prop :=
  ∃ (p : Pkt) (A1 : Option Addr) (c1 : Nat) (A2 : Option Addr) (c2 : Nat) (A3 : Option Addr) (c3 : Nat), e = .returned (p.val A1 c1 A2 c2 A3 c3) ∧ IsP w' w'.heap.size A1 c1 A2 c2 A3 c3 p ∧ p.right = 0 ∧ p.csrc.length ≤ 3 ∧ p.pay.length ≤ 30 ∧ p.ext.length ≤ 68 ∧ Moves g w w' ∧ ∀ ad, A1 = some ad → w.heap.size ≤ ad.block
theorem RtpNew.out {g : Nat} {w w' : World} {e : Ending} (h : RtpNew g w e w') : RtpOut g w e w' := by
  obtain ⟨p, A1, c1, A2, c2, A3, c3, h1, h2, h3, h4, h5, h6, h7, _⟩ := h
  exact ⟨p, A1, c1, A2, c2, A3, c3, h1, h2, h3, h4, h5, h6, h7⟩
theorem right_ok {p : Pkt} (h0 : 0 ≤ p.ty) (h1 : p.ty ≤ 127) (h2 : p.csrc.length ≤ 3) (h3 : p.ext.length % 4 = 0) (h4 : p.ext.length ≤ 68) (h5 : p.pay.length ≤ 30) (h6 : p.prof = 0 → p.ext.length = 0) : p.right = 0 := by
  have ha : p.arg = false := by
    simp only [Pkt.arg, Bool.or_eq_false_iff, Bool.and_eq_false_iff, decide_eq_false_iff_not]
    refine ⟨by omega, by omega, by omega, by omega, ?_⟩
    by_cases hp : p.prof = 0
    · right
      have := h6 hp
      omega
    · exact .inl hp
  rw [Pkt.right_size ha, if_neg]
  unfold Pkt.size
  split <;> omega
theorem PEnd.out {g : Nat} {w W W' : World} {R L : Nat} {p : Pkt} {A1 A2 A3 : Option Addr} {c1 c2 c3 : Nat} (h : PEnd g w W R L p A1 c1 A2 c2 A3 c3) (hf : OnlyR R W W') (hb : Below w.heap.size W W') (hIn : p.In) (hr : p.right = 0) (h2 : p.csrc.length ≤ 3) (h5 : p.pay.length ≤ 30) (h4 : p.ext.length ≤ 68) :
    RtpNew g w (.returned (p.val A1 c1 A2 c2 A3 c3)) W' := by
  obtain ⟨o1, o2, o3, o4⟩ := h.ord
  exact ⟨p, A1, c1, A2, c2, A3, c3, rfl, ⟨h.csrc.only (fun ad hA e => by have := h.csrcFar ad hA; omega) hf, h.ext.only h.res hf, h.pay.only h.res hf, hIn⟩, hr, h2, h5, h4, h.moves.and o1 hb, fun ad hA => by have := h.csrcFar ad hA; omega⟩
def setR (W : World) (R : Nat) (p : Pkt) (A1 : Option Addr) (c1 : Nat) (A2 : Option Addr) (c2 : Nat) (A3 : Option Addr) (c3 : Nat) : World := (((((((((W.setCell ⟨R, 0, none⟩ (.bool p.m)).setCell ⟨R, 1, none⟩ (.int .i64 p.ty)).setCell ⟨R, 2, none⟩ (.int .u16 (p.seq : Int))).setCell ⟨R, 3, none⟩ (.int .u32 (p.time : Int))).setCell ⟨R, 4, none⟩ (.int .u32 (p.ssrc : Int))).setCell ⟨R, 5, none⟩ (.slice A1 p.csrc.length c1)).setCell ⟨R, 6, none⟩ (.int .u16 (p.prof : Int))).setCell ⟨R, 7, none⟩ (.slice A2 p.ext.length c2)).setCell ⟨R, 8, none⟩ (.slice A3 p.pay.length c3))
theorem PEnd.final {g : Nat} {w W : World} {R L : Nat} {p : Pkt} {A1 A2 A3 : Option Addr} {c1 c2 c3 : Nat} (h : PEnd g w W R L p A1 c1 A2 c2 A3 c3) (hIn : p.In) (hr : p.right = 0) (h2 : p.csrc.length ≤ 3) (h5 : p.pay.length ≤ 30) (h4 : p.ext.length ≤ 68) :
    ∃ WF, setR W R p A1 c1 A2 c2 A3 c3 = WF ∧ RtpNew g w (.returned (p.val A1 c1 A2 c2 A3 c3)) WF ∧ WF.cell? ⟨R, 0, none⟩ = some (.bool p.m) ∧ WF.cell? ⟨R, 1, none⟩ = some (.int .i64 p.ty) ∧ WF.cell? ⟨R, 2, none⟩ = some (.int .u16 (p.seq : Int)) ∧ WF.cell? ⟨R, 3, none⟩ = some (.int .u32 (p.time : Int)) ∧
      WF.cell? ⟨R, 4, none⟩ = some (.int .u32 (p.ssrc : Int)) ∧ WF.cell? ⟨R, 5, none⟩ = some (.slice A1 p.csrc.length c1) ∧ WF.cell? ⟨R, 6, none⟩ = some (.int .u16 (p.prof : Int)) ∧ WF.cell? ⟨R, 7, none⟩ = some (.slice A2 p.ext.length c2) ∧ WF.cell? ⟨R, 8, none⟩ = some (.slice A3 p.pay.length c3) := by
  obtain ⟨o1, o2, o3, o4⟩ := h.ord
  have hO : OnlyR R W (setR W R p A1 c1 A2 c2 A3 c3) := ((((((((((OnlyR.refl _ _).set 0 _).set 1 _).set 2 _).set 3 _).set 4 _).set 5 _).set 6 _).set 7 _).set 8 _)
  have hB : Below w.heap.size W (setR W R p A1 c1 A2 c2 A3 c3) := ((((((((((Below.refl _ _).setCell (p := ⟨R, 0, none⟩) o2 _).setCell (p := ⟨R, 1, none⟩) o2 _).setCell (p := ⟨R, 2, none⟩) o2 _).setCell (p := ⟨R, 3, none⟩) o2 _).setCell (p := ⟨R, 4, none⟩) o2 _).setCell (p := ⟨R, 5, none⟩) o2 _).setCell (p := ⟨R, 6, none⟩) o2 _).setCell (p := ⟨R, 7, none⟩) o2 _).setCell (p := ⟨R, 8, none⟩) o2 _)
  have z0 : Blk W R 28 #[.bool false, .int .i64 0, .int .u16 0, .int .u32 0, .int .u32 0, .slice none 0 0, .int .u16 0, .slice none 0 0, .slice none 0 0] := h.res
  have z1 : Blk (W.setCell ⟨R, 0, none⟩ (.bool p.m)) R 28 #[.bool p.m, .int .i64 0, .int .u16 0, .int .u32 0, .int .u32 0, .slice none 0 0, .int .u16 0, .slice none 0 0, .slice none 0 0] := by
    have := z0.set_ 0 (.bool p.m)
    simpa only [List.setIfInBounds_toArray, List.set_cons_succ, List.set_cons_zero] using this
  have z2 : Blk ((W.setCell ⟨R, 0, none⟩ (.bool p.m)).setCell ⟨R, 1, none⟩ (.int .i64 p.ty)) R 28 #[.bool p.m, .int .i64 p.ty, .int .u16 0, .int .u32 0, .int .u32 0, .slice none 0 0, .int .u16 0, .slice none 0 0, .slice none 0 0] := by
    have := z1.set_ 1 (.int .i64 p.ty)
    simpa only [List.setIfInBounds_toArray, List.set_cons_succ, List.set_cons_zero] using this
  have z3 : Blk (((W.setCell ⟨R, 0, none⟩ (.bool p.m)).setCell ⟨R, 1, none⟩ (.int .i64 p.ty)).setCell ⟨R, 2, none⟩ (.int .u16 (p.seq : Int))) R 28 #[.bool p.m, .int .i64 p.ty, .int .u16 (p.seq : Int), .int .u32 0, .int .u32 0, .slice none 0 0, .int .u16 0, .slice none 0 0, .slice none 0 0] := by
    have := z2.set_ 2 (.int .u16 (p.seq : Int))
    simpa only [List.setIfInBounds_toArray, List.set_cons_succ, List.set_cons_zero] using this
  have z4 : Blk ((((W.setCell ⟨R, 0, none⟩ (.bool p.m)).setCell ⟨R, 1, none⟩ (.int .i64 p.ty)).setCell ⟨R, 2, none⟩ (.int .u16 (p.seq : Int))).setCell ⟨R, 3, none⟩ (.int .u32 (p.time : Int))) R 28 #[.bool p.m, .int .i64 p.ty, .int .u16 (p.seq : Int), .int .u32 (p.time : Int), .int .u32 0, .slice none 0 0, .int .u16 0, .slice none 0 0, .slice none 0 0] := by
    have := z3.set_ 3 (.int .u32 (p.time : Int))
    simpa only [List.setIfInBounds_toArray, List.set_cons_succ, List.set_cons_zero] using this
  have z5 : Blk (((((W.setCell ⟨R, 0, none⟩ (.bool p.m)).setCell ⟨R, 1, none⟩ (.int .i64 p.ty)).setCell ⟨R, 2, none⟩ (.int .u16 (p.seq : Int))).setCell ⟨R, 3, none⟩ (.int .u32 (p.time : Int))).setCell ⟨R, 4, none⟩ (.int .u32 (p.ssrc : Int))) R 28 #[.bool p.m, .int .i64 p.ty, .int .u16 (p.seq : Int), .int .u32 (p.time : Int), .int .u32 (p.ssrc : Int), .slice none 0 0, .int .u16 0, .slice none 0 0, .slice none 0 0] := by
    have := z4.set_ 4 (.int .u32 (p.ssrc : Int))
    simpa only [List.setIfInBounds_toArray, List.set_cons_succ, List.set_cons_zero] using this
  have z6 : Blk ((((((W.setCell ⟨R, 0, none⟩ (.bool p.m)).setCell ⟨R, 1, none⟩ (.int .i64 p.ty)).setCell ⟨R, 2, none⟩ (.int .u16 (p.seq : Int))).setCell ⟨R, 3, none⟩ (.int .u32 (p.time : Int))).setCell ⟨R, 4, none⟩ (.int .u32 (p.ssrc : Int))).setCell ⟨R, 5, none⟩ (.slice A1 p.csrc.length c1)) R 28 #[.bool p.m, .int .i64 p.ty, .int .u16 (p.seq : Int), .int .u32 (p.time : Int), .int .u32 (p.ssrc : Int), .slice A1 p.csrc.length c1, .int .u16 0, .slice none 0 0, .slice none 0 0] := by
    have := z5.set_ 5 (.slice A1 p.csrc.length c1)
    simpa only [List.setIfInBounds_toArray, List.set_cons_succ, List.set_cons_zero] using this
  have z7 : Blk (((((((W.setCell ⟨R, 0, none⟩ (.bool p.m)).setCell ⟨R, 1, none⟩ (.int .i64 p.ty)).setCell ⟨R, 2, none⟩ (.int .u16 (p.seq : Int))).setCell ⟨R, 3, none⟩ (.int .u32 (p.time : Int))).setCell ⟨R, 4, none⟩ (.int .u32 (p.ssrc : Int))).setCell ⟨R, 5, none⟩ (.slice A1 p.csrc.length c1)).setCell ⟨R, 6, none⟩ (.int .u16 (p.prof : Int))) R 28 #[.bool p.m, .int .i64 p.ty, .int .u16 (p.seq : Int), .int .u32 (p.time : Int), .int .u32 (p.ssrc : Int), .slice A1 p.csrc.length c1, .int .u16 (p.prof : Int), .slice none 0 0, .slice none 0 0] := by
    have := z6.set_ 6 (.int .u16 (p.prof : Int))
    simpa only [List.setIfInBounds_toArray, List.set_cons_succ, List.set_cons_zero] using this
  have z8 : Blk ((((((((W.setCell ⟨R, 0, none⟩ (.bool p.m)).setCell ⟨R, 1, none⟩ (.int .i64 p.ty)).setCell ⟨R, 2, none⟩ (.int .u16 (p.seq : Int))).setCell ⟨R, 3, none⟩ (.int .u32 (p.time : Int))).setCell ⟨R, 4, none⟩ (.int .u32 (p.ssrc : Int))).setCell ⟨R, 5, none⟩ (.slice A1 p.csrc.length c1)).setCell ⟨R, 6, none⟩ (.int .u16 (p.prof : Int))).setCell ⟨R, 7, none⟩ (.slice A2 p.ext.length c2)) R 28 #[.bool p.m, .int .i64 p.ty, .int .u16 (p.seq : Int), .int .u32 (p.time : Int), .int .u32 (p.ssrc : Int), .slice A1 p.csrc.length c1, .int .u16 (p.prof : Int), .slice A2 p.ext.length c2, .slice none 0 0] := by
    have := z7.set_ 7 (.slice A2 p.ext.length c2)
    simpa only [List.setIfInBounds_toArray, List.set_cons_succ, List.set_cons_zero] using this
  have z9 : Blk (((((((((W.setCell ⟨R, 0, none⟩ (.bool p.m)).setCell ⟨R, 1, none⟩ (.int .i64 p.ty)).setCell ⟨R, 2, none⟩ (.int .u16 (p.seq : Int))).setCell ⟨R, 3, none⟩ (.int .u32 (p.time : Int))).setCell ⟨R, 4, none⟩ (.int .u32 (p.ssrc : Int))).setCell ⟨R, 5, none⟩ (.slice A1 p.csrc.length c1)).setCell ⟨R, 6, none⟩ (.int .u16 (p.prof : Int))).setCell ⟨R, 7, none⟩ (.slice A2 p.ext.length c2)).setCell ⟨R, 8, none⟩ (.slice A3 p.pay.length c3)) R 28 #[.bool p.m, .int .i64 p.ty, .int .u16 (p.seq : Int), .int .u32 (p.time : Int), .int .u32 (p.ssrc : Int), .slice A1 p.csrc.length c1, .int .u16 (p.prof : Int), .slice A2 p.ext.length c2, .slice A3 p.pay.length c3] := by
    have := z8.set_ 8 (.slice A3 p.pay.length c3)
    simpa only [List.setIfInBounds_toArray, List.set_cons_succ, List.set_cons_zero] using this
  have hZ : (setR W R p A1 c1 A2 c2 A3 c3).heap[R]? = some (.cells (pcells p (.slice A1 p.csrc.length c1) A2 c2 A3 c3) 28 (0, 0)) := z9
  refine ⟨_, rfl, h.out hO hB hIn hr h2 h5 h4, ?_⟩
  simp [World.cell?, hZ, pcells]
end Go.Proofs.Ytpcdmcaojgpfoaa
