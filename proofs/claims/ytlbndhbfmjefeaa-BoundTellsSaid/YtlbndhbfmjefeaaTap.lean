/- A tape of numbers in memory, and what stays while it is read. No program's function. -/
import Derived.Test.YtlbndhbfmjefeaaRi
namespace Go.Proofs.Ytlbndhbfmjefeaa
open Go.RowKit
set_option linter.unusedVariables false
set_option linter.unusedSimpArgs false
set_option maxRecDepth 20000

/-- Block g holds a tape: its numbers below, so many of them read. -/
def TapeAt (w : World) (g : Nat) : Prop :=
  ∃ (A : Option Addr) (n c k : Nat), w.heap[g]? = some (.cells #[.slice A n c, .int .i64 (k : Int)] 41 (0, 0)) ∧ k ≤ n ∧ n ≤ 281474976710656 ∧ RI w g A n c
theorem TapeAt.lt {w : World} {g : Nat} (h : TapeAt w g) : g < w.heap.size := by
  obtain ⟨A, n, c, k, hg, _⟩ := h
  exact (Array.getElem?_eq_some_iff.1 hg).1
theorem TapeAt.keep {w w' : World} {g : Nat} (h : TapeAt w g) (hb : Below g w w') (hg' : w'.heap[g]? = w.heap[g]?) : TapeAt w' g := by
  obtain ⟨A, n, c, k, hg, h1, h2, h3⟩ := h
  exact ⟨A, n, c, k, hg'.trans hg, h1, h2, h3.keep hb⟩
theorem TapeAt.on {w w' : World} {g : Nat} (h : TapeAt w g) (hb : Below w.heap.size w w') : TapeAt w' g :=
  h.keep (hb.mono (Nat.le_of_lt h.lt)) (hb.block g h.lt)
/-- What stays while tape g is read: all but its own block; and it is a tape still. -/
structure Moves (g : Nat) (w w' : World) : Prop where
  below : Below g w w'
  other : ∀ k, k < w.heap.size → k ≠ g → w'.heap[k]? = w.heap[k]?
  tape : TapeAt w' g
theorem Moves.of {g : Nat} {w w' : World} (h : TapeAt w g) (hb : Below w.heap.size w w') : Moves g w w' :=
  ⟨hb.mono (Nat.le_of_lt h.lt), fun k hk _ => hb.block k hk, h.on hb⟩
theorem Moves.trans {g : Nat} {a b c : World} (h : Moves g a b) (k : Moves g b c) : Moves g a c :=
  ⟨h.below.trans k.below, fun i hi hne => (k.other i (by have := h.below.size; omega) hne).trans (h.other i hi hne), k.tape⟩
theorem Moves.and {g : Nat} {a b c : World} (h : Moves g a b) (hg : g < a.heap.size) (hb : Below a.heap.size b c) : Moves g a c :=
  ⟨h.below.trans (hb.mono (Nat.le_of_lt hg)), fun i hi hne => (hb.block i hi).trans (h.other i hi hne), h.tape.keep (hb.mono (Nat.le_of_lt hg)) (hb.block g hg)⟩
/-- No cell of a tape's block holds a byte or a word. -/
theorem TapeAt.no8 {w : World} {g : Nat} (h : TapeAt w g) {o : Nat} {x : Int} : w.cell? ⟨g, o, none⟩ ≠ some (.int .u8 x) := by
  obtain ⟨A, n, c, k, hg, _⟩ := h
  simp only [World.cell?, hg]
  match o with
  | 0 => simp
  | 1 => simp
  | o + 2 => simp
theorem TapeAt.no32 {w : World} {g : Nat} (h : TapeAt w g) {o : Nat} {x : Int} : w.cell? ⟨g, o, none⟩ ≠ some (.int .u32 x) := by
  obtain ⟨A, n, c, k, hg, _⟩ := h
  simp only [World.cell?, hg]
  match o with
  | 0 => simp
  | 1 => simp
  | o + 2 => simp
theorem R8.moves {w w' : World} {g n c : Nat} {A : Option Addr} {l : List UInt8} (h : R8 w w.heap.size A n c l) (hT : TapeAt w g) (hm : Moves g w w') : R8 w' w'.heap.size A n c l :=
  ⟨h.1, h.2.1, fun hn => by
    obtain ⟨b, off, e, hlt, hc⟩ := h.2.2 hn
    have hne : b ≠ g := fun e' => by
      subst e'
      exact hT.no8 (hc 0 hn)
    refine ⟨b, off, e, by have := hm.below.size; omega, fun i hi => ?_⟩
    rw [← hc i hi]
    exact World.cell?_of_block (hm.other b hlt hne)⟩
theorem own_moves {w w' : World} {g base size n : Nat} {e : TypeId} {v : Value} {xs : List Value} (h : w.ownsRow base e size v n xs) (hgb : g < base) (hm : Moves g w w') : w'.ownsRow base e size v n xs := by
  refine ⟨h.1, ?_⟩
  rcases h.2 with hn | ⟨b, cap, cur, hv, hb, hg, rest⟩
  · exact .inl hn
  · have hlt : b < w.heap.size := (Array.getElem?_eq_some_iff.1 hg).1
    exact .inr ⟨b, cap, cur, hv, hb, (hm.other b hlt (by omega)).trans hg, rest⟩
end Go.Proofs.Ytlbndhbfmjefeaa
