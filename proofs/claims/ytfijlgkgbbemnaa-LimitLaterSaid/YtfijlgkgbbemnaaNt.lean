/- Tuples in plain words and in memory. No program's function. A tape of numbers in memory, and what stays while it is read. No program's function. -/
import Derived.Test.YtfijlgkgbbemnaaRx
import Derived.Test.YtfijlgkgbbemnaaRi
namespace Go.Proofs.Ytfijlgkgbbemnaa
open Go.RowKit
set_option linter.unusedVariables false
set_option linter.unusedSimpArgs false
set_option maxRecDepth 20000

structure Tup where
  owner : Nat
  rate : Nat
  over : Int
structure Tup.In (t : Tup) : Prop where
  owner : t.owner < 4294967296
  rate : t.rate < 18446744073709551616
  over : I64 t.over
def Tup.cells (t : Tup) : List Value := [.int .u32 (t.owner : Int), .int .u64 (t.rate : Int), .int .i64 t.over]
def cellsT (l : List Tup) : List Value := l.flatMap Tup.cells
theorem cellsT_len (l : List Tup) : (cellsT l).length = l.length * 3 := flat_length (k := 3) (fun _ => rfl) l
def RT (w : World) (B : Nat) (A : Option Addr) (n c : Nat) (l : List Tup) : Prop := l.length = n ∧ (∀ t ∈ l, t.In) ∧ RX w B A n c 3 (cellsT l)
theorem RT.on {w w' : World} {A : Option Addr} {n c : Nat} {l : List Tup} (h : RT w w.heap.size A n c l) (hb : Below w.heap.size w w') : RT w' w'.heap.size A n c l := ⟨h.1, h.2.1, h.2.2.on hb⟩
theorem RT.below {w w' : World} {B : Nat} {A : Option Addr} {n c : Nat} {l : List Tup} (h : RT w B A n c l) (hb : Below B w w') : RT w' B A n c l := ⟨h.1, h.2.1, h.2.2.below hb⟩
theorem RT.more {w : World} {B B' : Nat} {A : Option Addr} {n c : Nat} {l : List Tup} (h : RT w B A n c l) (hb : B ≤ B') : RT w B' A n c l := ⟨h.1, h.2.1, h.2.2.more hb⟩
theorem RT.nil (w : World) (B : Nat) (A : Option Addr) (c : Nat) : RT w B A 0 c [] := ⟨rfl, by simp, RX.nil _ _ _ _ _⟩
/-- The cells of the q-th tuple, as a walk spells them. -/
theorem RT.at {w : World} {B : Nat} {A : Option Addr} {n c : Nat} {l : List Tup} (h : RT w B A n c l) {q : Nat} (hq : q < l.length) : ∃ b off, A = some ⟨b, off, none⟩ ∧ b < B ∧ w.cell? ⟨b, off + q * 3, none⟩ = some (.int .u32 (l[q].owner : Int)) ∧ w.cell? ⟨b, off + q * 3 + 1, none⟩ = some (.int .u64 (l[q].rate : Int)) ∧ w.cell? ⟨b, off + q * 3 + 2, none⟩ = some (.int .i64 l[q].over) := by
  obtain ⟨b, off, e, hb, hc⟩ := h.2.2.2.2 (by rw [← h.1]; omega)
  have g := fun j hj => flat_get (f := Tup.cells) (k := 3) (fun _ => rfl) l q j hq hj
  refine ⟨b, off, e, hb, ?_, ?_, ?_⟩
  · exact hc (q * 3) _ ((g 0 (by omega)).trans rfl)
  · rw [Nat.add_assoc]; exact hc (q * 3 + 1) _ ((g 1 (by omega)).trans rfl)
  · rw [Nat.add_assoc]; exact hc (q * 3 + 2) _ ((g 2 (by omega)).trans rfl)
end Go.Proofs.Ytfijlgkgbbemnaa
namespace Go.Proofs.Ytfijlgkgbbemnaa
open Go.RowKit
set_option linter.unusedVariables false
set_option linter.unusedSimpArgs false
set_option maxRecDepth 20000

/-- Block g holds a tape: its numbers below, so many of them read. -/
def TapeAt (w : World) (g : Nat) : Prop :=
  ∃ (A : Option Addr) (n c k : Nat), w.heap[g]? = some (.cells #[.slice A n c, .int .i64 (k : Int)] 26 (0, 0)) ∧ k ≤ n ∧ n ≤ 281474976710656 ∧ RI w g A n c
theorem TapeAt.lt {w : World} {g : Nat} (h : TapeAt w g) : g < w.heap.size := by
  obtain ⟨A, n, c, k, hg, _⟩ := h
  exact (Array.getElem?_eq_some_iff.1 hg).1
theorem TapeAt.keep {w w' : World} {g : Nat} (h : TapeAt w g) (hb : Below g w w') (hg' : w'.heap[g]? = w.heap[g]?) : TapeAt w' g := by
  obtain ⟨A, n, c, k, hg, h1, h2, h3⟩ := h
  exact ⟨A, n, c, k, hg'.trans hg, h1, h2, h3.keep hb⟩
theorem TapeAt.on {w w' : World} {g : Nat} (h : TapeAt w g) (hb : Below w.heap.size w w') : TapeAt w' g :=
  h.keep (hb.mono (Nat.le_of_lt h.lt)) (hb.block g h.lt)
/-- What stays while tape g is read: all but its own block; and it is a tape still. -/
structure Moves (g : Nat) (w w' : World) : Prop where
  below : Below g w w'
  other : ∀ k, k < w.heap.size → k ≠ g → w'.heap[k]? = w.heap[k]?
  tape : TapeAt w' g
theorem Moves.of {g : Nat} {w w' : World} (h : TapeAt w g) (hb : Below w.heap.size w w') : Moves g w w' :=
  ⟨hb.mono (Nat.le_of_lt h.lt), fun k hk _ => hb.block k hk, h.on hb⟩
theorem Moves.trans {g : Nat} {a b c : World} (h : Moves g a b) (k : Moves g b c) : Moves g a c :=
  ⟨h.below.trans k.below, fun i hi hne => (k.other i (by have := h.below.size; omega) hne).trans (h.other i hi hne), k.tape⟩
theorem Moves.and {g : Nat} {a b c : World} (h : Moves g a b) (hg : g < a.heap.size) (hb : Below a.heap.size b c) : Moves g a c :=
  ⟨h.below.trans (hb.mono (Nat.le_of_lt hg)), fun i hi hne => (hb.block i hi).trans (h.other i hi hne), h.tape.keep (hb.mono (Nat.le_of_lt hg)) (hb.block g hg)⟩
/-- No cell of a tape's block holds a byte or a word. -/
theorem TapeAt.no8 {w : World} {g : Nat} (h : TapeAt w g) {o : Nat} {x : Int} : w.cell? ⟨g, o, none⟩ ≠ some (.int .u8 x) := by
  obtain ⟨A, n, c, k, hg, _⟩ := h
  simp only [World.cell?, hg]
  match o with
  | 0 => simp
  | 1 => simp
  | o + 2 => simp
theorem TapeAt.no32 {w : World} {g : Nat} (h : TapeAt w g) {o : Nat} {x : Int} : w.cell? ⟨g, o, none⟩ ≠ some (.int .u32 x) := by
  obtain ⟨A, n, c, k, hg, _⟩ := h
  simp only [World.cell?, hg]
  match o with
  | 0 => simp
  | 1 => simp
  | o + 2 => simp
theorem R8.moves {w w' : World} {g n c : Nat} {A : Option Addr} {l : List UInt8} (h : R8 w w.heap.size A n c l) (hT : TapeAt w g) (hm : Moves g w w') : R8 w' w'.heap.size A n c l :=
  ⟨h.1, h.2.1, fun hn => by
    obtain ⟨b, off, e, hlt, hc⟩ := h.2.2 hn
    have hne : b ≠ g := fun e' => by
      subst e'
      exact hT.no8 (hc 0 hn)
    refine ⟨b, off, e, by have := hm.below.size; omega, fun i hi => ?_⟩
    rw [← hc i hi]
    exact World.cell?_of_block (hm.other b hlt hne)⟩
theorem own_moves {w w' : World} {g base size n : Nat} {e : TypeId} {v : Value} {xs : List Value} (h : w.ownsRow base e size v n xs) (hgb : g < base) (hm : Moves g w w') : w'.ownsRow base e size v n xs := by
  refine ⟨h.1, ?_⟩
  rcases h.2 with hn | ⟨b, cap, cur, hv, hb, hg, rest⟩
  · exact .inl hn
  · have hlt : b < w.heap.size := (Array.getElem?_eq_some_iff.1 hg).1
    exact .inr ⟨b, cap, cur, hv, hb, (hm.other b hlt (by omega)).trans hg, rest⟩
end Go.Proofs.Ytfijlgkgbbemnaa
