/- Plain words for byte slices in the model's memory: a slice that reads as a list of bytes, kept over later worlds. No function of the program. -/
import Derived.Test.YtmkbbndfdgnakaaRows
import Derived.WalkKit
import Derived.WalkSpells
import Derived.WalkLawsBesides
import Derived.Lib.Hide
import Derived.Laws.OwnMore
import Derived.Deep.AppendLies
import Derived.Deep.Draws
import Derived.Laws.Rows
import Derived.Laws.BytesArg
import Derived.Laws.CopyOwn
namespace Go.Proofs.Ytmkbbndfdgnakaa
open Go.RowKit
set_option linter.unusedVariables false
set_option linter.unusedSimpArgs false
set_option maxRecDepth 20000

/-- A byte as a value. -/
def bv (b : UInt8) : Value := .int .u8 (b.toNat : Int)
theorem bv_one (l : List UInt8) : ∀ u ∈ l.map bv, u.oneCell' = true := by
  intro u hu
  obtain ⟨b, _, rfl⟩ := List.mem_map.1 hu
  rfl

/-- The slice value '.slice A n c' reads as the bytes l, below block B. -/
def R8 (w : World) (B : Nat) (A : Option Addr) (n c : Nat) (l : List UInt8) : Prop :=
  l.length = n ∧ n ≤ c ∧ (0 < n → ∃ b off, A = some ⟨b, off, none⟩ ∧ b < B ∧ ∀ i, i < n → w.cell? ⟨b, off + i, none⟩ = some (.int .u8 ((l.getD i 0).toNat : Int)))

section
variable {w w' : World} {B B' n c : Nat} {A : Option Addr} {l : List UInt8}
theorem R8.len (h : R8 w B A n c l) : l.length = n := h.1
theorem R8.nil (w : World) (B : Nat) (A : Option Addr) (c : Nat) : R8 w B A 0 c [] := ⟨rfl, Nat.zero_le _, fun h => absurd h (by omega)⟩
theorem R8.keep (h : R8 w B A n c l) (hk : ∀ p : Addr, p.block < B → w'.cell? p = w.cell? p) : R8 w' B A n c l :=
  ⟨h.1, h.2.1, fun hn => by
    obtain ⟨b, off, e, hb, hc⟩ := h.2.2 hn
    exact ⟨b, off, e, hb, fun i hi => (hk _ hb).trans (hc i hi)⟩⟩
theorem R8.more (h : R8 w B A n c l) (hB : B ≤ B') : R8 w B' A n c l :=
  ⟨h.1, h.2.1, fun hn => by
    obtain ⟨b, off, e, hb, hc⟩ := h.2.2 hn
    exact ⟨b, off, e, by omega, hc⟩⟩
theorem R8.below (h : R8 w B A n c l) (hb : Below B w w') : R8 w' B A n c l := h.keep fun _ hp => hb.cell hp
theorem R8.drew (h : R8 w B A n c l) : R8 w.drew B A n c l := h
theorem R8.drewN (h : R8 w B A n c l) (k : Nat) : R8 (w.drewN k) B A n c l := h
theorem R8.alloc (h : R8 w B A n c l) (hB : B ≤ w.heap.size) (o : Obj) : R8 (w.alloc o) B A n c l := h.keep fun p hp => World.cell?_alloc_lt w o p (by omega)
/-- The form that contracts take: below the heap's size at hand. -/
theorem R8.on (h : R8 w w.heap.size A n c l) (hb : Below w.heap.size w w') : R8 w' w'.heap.size A n c l := (h.below hb).more hb.size
/-- The cells as a row of values, at an address. -/
theorem R8.src (h : R8 w B A n c l) (hp : 0 < (l.map bv).length) : ∃ ad, A = some ad ∧ ∀ j v, (l.map bv)[j]? = some v → w.cell? (ad.add j) = some v := by
  obtain ⟨b, off, rfl, hb, hc⟩ := h.2.2 (by simpa [h.1] using hp)
  refine ⟨_, rfl, fun j v hj => ?_⟩
  have hjl : j < l.length := by
    rcases Nat.lt_or_ge j l.length with h' | h'
    · exact h'
    · rw [List.getElem?_eq_none (by simpa using h')] at hj; cases hj
  have e : (⟨b, off, none⟩ : Addr).add j = ⟨b, off + j, none⟩ := by unfold Addr.add; split <;> simp_all
  rw [e, hc j (by rw [← h.1]; exact hjl)]
  simp [hjl, bv] at hj
  simp [List.getD, hjl, hj]
theorem R8.cell (h : R8 w B A n c l) (hn : 0 < n) : ∃ b off, A = some ⟨b, off, none⟩ ∧ b < B ∧ ∀ i, i < n → w.cell? ⟨b, off + i, none⟩ = some (.int .u8 ((l.getD i 0).toNat : Int)) := h.2.2 hn

/-- string(p): the bytes as a string, in any world in which they lie. -/
theorem strOf_bytes (l : List UInt8) : strOfNums (l.map fun b => (b.toNat : Int)) = ⟨l.toArray⟩ := by
  unfold strOfNums
  congr 2
  rw [List.map_map]
  conv => rhs; rw [← List.map_id l]
  apply List.map_congr_left
  intro b _
  simp
theorem R8.string (h : R8 w B A n c l) {P : Program} (src e dst : TypeId) (hs : P.underlying src = some (.slice e)) (he : P.underlying e = some (.int .u8)) (hd : P.underlying dst = some .string) :
    (convert src dst (.slice A n c)).run P w = .ok (.string ⟨l.toArray⟩) w := by
  rcases Nat.eq_zero_or_pos n with h0 | h0
  · subst h0
    have hl : l = [] := List.eq_nil_of_length_eq_zero h.1
    subst hl
    rcases A with _ | ad
    · exact run_convert_bytes_nil w src e hs he 0 c dst hd
    · have := run_convert_bytes_string w src dst e (some ad) 0 c hs he hd
      rw [this, run_bytesToString w ad 0 c [] (run_loadCells_list (P := P) w ad [] (by simp))]
      rfl
  · obtain ⟨b, off, rfl, hb, hc⟩ := h.2.2 h0
    rw [run_convert_bytes_arg w src e hs he b off n c (l.map fun b => (b.toNat : Int)) (by simp [h.1]) (fun i hi => by
      rw [hc i hi]
      have : i < l.length := by rw [h.1]; exact hi
      simp [List.getD, this]) dst hd, strOf_bytes]
end

/-- The address of 's[i:]' of a slice of one-cell elements. -/
def cutA (A : Option Addr) (c i : Nat) : Option Addr := if c = i then A else A.map (·.add i)
theorem run_cut {P : Program} (t e : TypeId) (ht : P.underlying t = some (.slice e)) (hs : (P.info? e).map (·.size) = some 1) (A : Option Addr) (n c : Nat) (kl kh : IntKind) (l h : Int)
    (h0 : 0 ≤ l) (h1 : l ≤ h) (h2 : h ≤ c) (w : World) :
    (Instr.slice t (.slice A n c) (some (.int kl l)) (some (.int kh h)) none).run P w = .ok (.slice (cutA A c l.toNat) (h.toNat - l.toNat) (c - l.toNat)) w := by
  have eh : (h.toNat : Int) = h := Int.toNat_of_nonneg (by omega)
  have g1 : (P.elem t) = e := by simp [Program.elem, ht]
  obtain ⟨i, hi, hsz⟩ : ∃ i, P.info? e = some i ∧ i.size = 1 := by
    cases hh : P.info? e with
    | none => rw [hh] at hs; cases hs
    | some i => rw [hh] at hs; exact ⟨i, rfl, by simpa using hs⟩
  have := run_slice_lh (P := P) w t A n c (by rw [g1]; exact ht) kl kh l h h0 h1 h2
  rw [this, g1]
  simp [sizeOf, typeInfo, hi, hsz, sliced, cutA, Result.andThen]
theorem R8.cut {w : World} {B n c : Nat} {A : Option Addr} {l : List UInt8} (h : R8 w B A n c l) (i j : Nat) (hi : i ≤ j) (hj : j ≤ n) : R8 w B (cutA A c i) (j - i) (c - i) ((l.drop i).take (j - i)) := by
  have hl := h.1
  have hc := h.2.1
  refine ⟨by simp; omega, by omega, fun hn => ?_⟩
  obtain ⟨b, off, rfl, hb, hcell⟩ := h.2.2 (by omega)
  unfold cutA
  rw [if_neg (by omega)]
  refine ⟨b, off + i, ?_, hb, fun k hk => ?_⟩
  · simp only [Option.map_some, Addr.add]
    split <;> simp_all
  · rw [Nat.add_assoc, hcell (i + k) (by omega)]
    simp [List.getD, List.getElem?_take, List.getElem?_drop, hk]

/-- A block that is known whole. -/
def Blk (w : World) (g : Nat) (t : TypeId) (cs : Array Value) : Prop := w.heap[g]? = some (.cells cs t (0, 0))
section
variable {w w' : World} {g : Nat} {t : TypeId} {cs : Array Value}
theorem Blk.lt (h : Blk w g t cs) : g < w.heap.size := by
  rcases Nat.lt_or_ge g w.heap.size with hlt | hge
  · exact hlt
  · unfold Blk at h; rw [Array.getElem?_eq_none hge] at h; cases h
theorem Blk.cell (h : Blk w g t cs) (i : Nat) : w.cell? ⟨g, i, none⟩ = cs[i]? := cell_of_row w g i cs t (0, 0) h
theorem Blk.frozen (h : Blk w g t cs) (i : Nat) : w.frozen? ⟨g, i, none⟩ = false := by
  unfold Blk at h
  simp [World.frozen?, h]
theorem Blk.new (w : World) (t : TypeId) (cs : Array Value) : Blk (w.alloc (.cells cs t)) w.heap.size t cs := heap_alloc_new w _
theorem Blk.drew (h : Blk w g t cs) : Blk w.drew g t cs := h
theorem Blk.drewN (h : Blk w g t cs) (n : Nat) : Blk (w.drewN n) g t cs := h
theorem Blk.alloc (h : Blk w g t cs) (o : Obj) : Blk (w.alloc o) g t cs := (Below.heap_alloc w o g h.lt).trans h
theorem Blk.set_ (h : Blk w g t cs) (i : Nat) (u : Value) : Blk (w.setCell ⟨g, i, none⟩ u) g t (cs.setIfInBounds i u) := by
  unfold Blk at h ⊢
  simp [World.setCell, Array.getElem?_modify, h]
theorem Blk.far (h : Blk w g t cs) {p : Addr} (hp : g ≠ p.block) (u : Value) : Blk (w.setCell p u) g t cs := (Below.heap_setCell w p u g hp).trans h
theorem Blk.below {B : Nat} (h : Blk w g t cs) (hb : Below B w w') (hg : g < B) : Blk w' g t cs := (hb.block g hg).trans h
/-- A block of bytes reads as a slice over it. -/
theorem Blk.r8 {l : List UInt8} {n c : Nat} (h : Blk w g t (l.map bv).toArray) (hn : l.length = n) (hc : n ≤ c) : R8 w w.heap.size (some ⟨g, 0, none⟩) n c l :=
  ⟨hn, hc, fun _ => ⟨g, 0, rfl, h.lt, fun i hi => by
    rw [Nat.zero_add, h.cell i]
    have : i < l.length := by omega
    simp [List.getD, this, bv]⟩⟩
end

/-- A length, behind a name. -/
def Len (l : List UInt8) (m : Nat) : Prop := l.length = m
/-- A slice's length. -/
def lenOf : Value → Nat | .slice _ m _ => m | _ => 0
theorem imod (a b k : Nat) : (((a : Int) + (b : Int)) % (k : Int)) = (((a + b) % k : Nat) : Int) := by rw [← Int.natCast_add, ← Int.natCast_emod]
/-- What a call hands back: a slice that reads as l, and nothing that was there has turned. -/
def Out8 (w : World) (l : List UInt8) (e : Ending) (w' : World) : Prop :=
  ∃ A m c, e = .returned (.slice A m c) ∧ R8 w' w'.heap.size A m c l ∧ Below w.heap.size w w'
/-- The same beside a bool. -/
def Out8b (w : World) (l : List UInt8) (b : Bool) (e : Ending) (w' : World) : Prop :=
  ∃ A m c, e = .returned (.tuple #[.slice A m c, .bool b]) ∧ R8 w' w'.heap.size A m c l ∧ Below w.heap.size w w'
/-- The law's way out: true, and nothing that was there has turned. -/
def Yes (w : World) (e : Ending) (w' : World) : Prop := e = .returned (.bool true) ∧ Below w.heap.size w w'
end Go.Proofs.Ytmkbbndfdgnakaa
