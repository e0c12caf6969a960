/- Reports in memory: what a slice of structs, a []int, a report's value read as. No program's function. -/
import Derived.Test.YtnchgmemajmkjaaAppV
import Derived.Test.YtnchgmemajmkjaaRcP
namespace Go.Proofs.Ytnchgmemajmkjaa
open Go.RowKit
set_option linter.unusedVariables false
set_option linter.unusedSimpArgs false
set_option maxRecDepth 20000

/-- The slice value '.slice A n c' of elements of 'size' cells holds the cells vs, below block B. -/
def RX (w : World) (B : Nat) (A : Option Addr) (n c size : Nat) (vs : List Value) : Prop :=
  vs.length = n * size ∧ n ≤ c ∧ (0 < n → ∃ b off, A = some ⟨b, off, none⟩ ∧ b < B ∧ ∀ j v, vs[j]? = some v → w.cell? ⟨b, off + j, none⟩ = some v)
section
variable {w w' : World} {B B' n c size : Nat} {A : Option Addr} {vs : List Value}
theorem RX.nil (w : World) (B : Nat) (A : Option Addr) (c size : Nat) : RX w B A 0 c size [] := ⟨by simp, Nat.zero_le _, fun h => absurd h (by omega)⟩
theorem RX.keep (h : RX w B A n c size vs) (hk : ∀ p : Addr, p.block < B → w'.cell? p = w.cell? p) : RX w' B A n c size vs :=
  ⟨h.1, h.2.1, fun hn => by
    obtain ⟨b, off, e, hb, hc⟩ := h.2.2 hn
    exact ⟨b, off, e, hb, fun j v hj => (hk ⟨b, off + j, none⟩ hb).trans (hc j v hj)⟩⟩
theorem RX.more (h : RX w B A n c size vs) (hB : B ≤ B') : RX w B' A n c size vs :=
  ⟨h.1, h.2.1, fun hn => by
    obtain ⟨b, off, e, hb, hc⟩ := h.2.2 hn
    exact ⟨b, off, e, by omega, hc⟩⟩
theorem RX.below (h : RX w B A n c size vs) (hb : Below B w w') : RX w' B A n c size vs := h.keep fun _ hp => hb.cell hp
theorem RX.on (h : RX w w.heap.size A n c size vs) (hb : Below w.heap.size w w') : RX w' w'.heap.size A n c size vs := (h.below hb).more hb.size
end
theorem own_rx {w : World} {base size n : Nat} {e : TypeId} {v : Value} {vs : List Value} (hl : vs.length = n * size) (h : w.ownsRow base e size v n vs) : ∃ A c, v = .slice A n c ∧ RX w w.heap.size A n c size vs ∧ ∀ ad, A = some ad → base ≤ ad.block := by
  rcases h.2 with ⟨hv, h0⟩ | ⟨g, cap, cur, hv, hb, hg, hc1, hc2, hc3, hc4⟩
  · subst h0
    have : vs = [] := List.length_eq_zero_iff.1 (by simpa using hl)
    subst this
    exact ⟨none, 0, hv, RX.nil _ _ _ _ _, fun _ h => by cases h⟩
  · refine ⟨_, _, hv, ⟨hl, hc1, fun hn => ⟨g, 0, rfl, (Array.getElem?_eq_some_iff.1 hg).1, fun j u hj => ?_⟩⟩, fun ad h => by injection h with h; subst h; exact hb⟩
    have hjl : j < n * size := by
      have := (List.getElem?_eq_some_iff.1 hj).1
      rwa [hl] at this
    have hcell : cur.toList[j]? = vs[j]? := by
      rw [← hc4, List.getElem?_take, if_pos hjl]
    rw [Nat.zero_add, World.cell?, hg]
    simp only [← Array.getElem?_toList, hcell, hj]
    rfl
theorem flat_get {α β : Type} {f : α → List β} {k : Nat} (h : ∀ x, (f x).length = k) : ∀ (l : List α) (i j : Nat) (hi : i < l.length), j < k → (l.flatMap f)[i * k + j]? = (f l[i])[j]?
  | x :: r, 0, j, _, hj => by
    rw [List.flatMap_cons, Nat.zero_mul, Nat.zero_add, List.getElem?_append_left (by rw [h]; exact hj)]
    rfl
  | x :: r, i + 1, j, hi, hj => by
    have ih := flat_get h r i j (by simpa using hi) hj
    rw [List.flatMap_cons, List.getElem?_append_right (by rw [h, Nat.add_mul]; omega), h, show (i + 1) * k + j - k = i * k + j by rw [Nat.add_mul]; omega]
    exact ih
theorem flat_length {α β : Type} {f : α → List β} {k : Nat} (h : ∀ x, (f x).length = k) (l : List α) : (l.flatMap f).length = l.length * k := by
  induction l with
  | nil => simp
  | cons x r ih => rw [List.flatMap_cons, List.length_append, ih, h, List.length_cons, Nat.add_mul]; omega

/-! ### Numbers -/
def iv (x : Int) : Value := .int .i64 x
def RN (w : World) (B : Nat) (A : Option Addr) (n c : Nat) (l : List Int) : Prop := l.length = n ∧ (∀ x ∈ l, I64 x) ∧ RX w B A n c 1 (l.map iv)
theorem RN.on {w w' : World} {A : Option Addr} {n c : Nat} {l : List Int} (h : RN w w.heap.size A n c l) (hb : Below w.heap.size w w') : RN w' w'.heap.size A n c l := ⟨h.1, h.2.1, h.2.2.on hb⟩
theorem RN.below {w w' : World} {B : Nat} {A : Option Addr} {n c : Nat} {l : List Int} (h : RN w B A n c l) (hb : Below B w w') : RN w' B A n c l := ⟨h.1, h.2.1, h.2.2.below hb⟩
theorem RN.more {w : World} {B B' : Nat} {A : Option Addr} {n c : Nat} {l : List Int} (h : RN w B A n c l) (hb : B ≤ B') : RN w B' A n c l := ⟨h.1, h.2.1, h.2.2.more hb⟩
theorem RN.nil (w : World) (B : Nat) (A : Option Addr) (c : Nat) : RN w B A 0 c [] := ⟨rfl, by simp, RX.nil _ _ _ _ _⟩
theorem RN.at {w : World} {B : Nat} {A : Option Addr} {n c : Nat} {l : List Int} (h : RN w B A n c l) {q : Nat} (hq : q < l.length) : ∃ b off, A = some ⟨b, off, none⟩ ∧ b < B ∧ w.cell? ⟨b, off + q, none⟩ = some (.int .i64 l[q]) := by
  obtain ⟨b, off, e, hb, hc⟩ := h.2.2.2.2 (by rw [← h.1]; omega)
  exact ⟨b, off, e, hb, hc q _ (by simp [hq, iv])⟩
/-! ### Tuples -/
structure Tup.In (t : Tup) : Prop where
  owner : t.owner < 4294967296
  rate : t.rate < 18446744073709551616
  over : I64 t.over
def Tup.cells (t : Tup) : List Value := [.int .u32 (t.owner : Int), .int .u64 (t.rate : Int), .int .i64 t.over]
def cellsT (l : List Tup) : List Value := l.flatMap Tup.cells
theorem cellsT_len (l : List Tup) : (cellsT l).length = l.length * 3 := flat_length (k := 3) (fun _ => rfl) l
def RT (w : World) (B : Nat) (A : Option Addr) (n c : Nat) (l : List Tup) : Prop := l.length = n ∧ (∀ t ∈ l, t.In) ∧ RX w B A n c 3 (cellsT l)
theorem RT.on {w w' : World} {A : Option Addr} {n c : Nat} {l : List Tup} (h : RT w w.heap.size A n c l) (hb : Below w.heap.size w w') : RT w' w'.heap.size A n c l := ⟨h.1, h.2.1, h.2.2.on hb⟩
theorem RT.below {w w' : World} {B : Nat} {A : Option Addr} {n c : Nat} {l : List Tup} (h : RT w B A n c l) (hb : Below B w w') : RT w' B A n c l := ⟨h.1, h.2.1, h.2.2.below hb⟩
theorem RT.more {w : World} {B B' : Nat} {A : Option Addr} {n c : Nat} {l : List Tup} (h : RT w B A n c l) (hb : B ≤ B') : RT w B' A n c l := ⟨h.1, h.2.1, h.2.2.more hb⟩
theorem RT.nil (w : World) (B : Nat) (A : Option Addr) (c : Nat) : RT w B A 0 c [] := ⟨rfl, by simp, RX.nil _ _ _ _ _⟩
/-- The cells of the q-th tuple, as a walk spells them. -/
theorem RT.at {w : World} {B : Nat} {A : Option Addr} {n c : Nat} {l : List Tup} (h : RT w B A n c l) {q : Nat} (hq : q < l.length) : ∃ b off, A = some ⟨b, off, none⟩ ∧ b < B ∧ w.cell? ⟨b, off + q * 3, none⟩ = some (.int .u32 (l[q].owner : Int)) ∧ w.cell? ⟨b, off + q * 3 + 1, none⟩ = some (.int .u64 (l[q].rate : Int)) ∧ w.cell? ⟨b, off + q * 3 + 2, none⟩ = some (.int .i64 l[q].over) := by
  obtain ⟨b, off, e, hb, hc⟩ := h.2.2.2.2 (by rw [← h.1]; omega)
  have g := fun j hj => flat_get (f := Tup.cells) (k := 3) (fun _ => rfl) l q j hq hj
  refine ⟨b, off, e, hb, ?_, ?_, ?_⟩
  · exact hc (q * 3) _ ((g 0 (by omega)).trans rfl)
  · rw [Nat.add_assoc]; exact hc (q * 3 + 1) _ ((g 1 (by omega)).trans rfl)
  · rw [Nat.add_assoc]; exact hc (q * 3 + 2) _ ((g 2 (by omega)).trans rfl)
/-! ### Reports -/
/-- A report's value: what it reads as, and where its slices lie. -/
structure Rv where
  r : Rep
  At : Option Addr
  ct : Nat
  Aa : Option Addr
  ca : Nat
  An : Option Addr
  cn : Nat
  Ab : Option Addr
  cb : Nat
structure Rep.In (r : Rep) : Prop where
  kind : I64 r.kind
  src : r.src < 4294967296
  about : r.about < 4294967296
  rate : r.rate < 18446744073709551616
  ty : I64 r.ty
  count : I64 r.count
  tups : r.tups.length ≤ 140737488355328
  abouts : r.abouts.length ≤ 140737488355328
  nums : r.nums.length ≤ 140737488355328
  body : r.body.length ≤ 140737488355328
def Rv.cells (x : Rv) : List Value := [.int .i64 x.r.kind, .int .u32 (x.r.src : Int), .int .u32 (x.r.about : Int), .slice x.At x.r.tups.length x.ct, .slice x.Aa x.r.abouts.length x.ca, .slice x.An x.r.nums.length x.cn, .int .u64 (x.r.rate : Int), .int .i64 x.r.ty, .int .i64 x.r.count, .slice x.Ab x.r.body.length x.cb]
def Rv.val (x : Rv) : Value := .agg x.cells.toArray
structure IsR (w : World) (B : Nat) (x : Rv) : Prop where
  tups : RT w B x.At x.r.tups.length x.ct x.r.tups
  abouts : R32 w B x.Aa x.r.abouts.length x.ca x.r.abouts
  nums : RN w B x.An x.r.nums.length x.cn x.r.nums
  body : R8 w B x.Ab x.r.body.length x.cb x.r.body
  kinds : x.r.In
theorem IsR.on {w w' : World} {x : Rv} (h : IsR w w.heap.size x) (hb : Below w.heap.size w w') : IsR w' w'.heap.size x := ⟨h.tups.on hb, h.abouts.on hb, h.nums.on hb, h.body.on hb, h.kinds⟩
theorem IsR.below {w w' : World} {B : Nat} {x : Rv} (h : IsR w B x) (hb : Below B w w') : IsR w' B x := ⟨h.tups.below hb, h.abouts.below hb, h.nums.below hb, h.body.below hb, h.kinds⟩
theorem IsR.more {w : World} {B B' : Nat} {x : Rv} (h : IsR w B x) (hb : B ≤ B') : IsR w B' x := ⟨h.tups.more hb, h.abouts.more hb, h.nums.more hb, h.body.more hb, h.kinds⟩
def cellsR (L : List Rv) : List Value := L.flatMap Rv.cells
theorem cellsR_len (L : List Rv) : (cellsR L).length = L.length * 10 := flat_length (k := 10) (fun _ => rfl) L
def RR (w : World) (B : Nat) (A : Option Addr) (n c : Nat) (L : List Rv) : Prop := L.length = n ∧ (∀ x ∈ L, IsR w B x) ∧ RX w B A n c 10 (cellsR L)
theorem RR.on {w w' : World} {A : Option Addr} {n c : Nat} {L : List Rv} (h : RR w w.heap.size A n c L) (hb : Below w.heap.size w w') : RR w' w'.heap.size A n c L := ⟨h.1, fun x hx => (h.2.1 x hx).on hb, h.2.2.on hb⟩
theorem RR.nil (w : World) (B : Nat) (A : Option Addr) (c : Nat) : RR w B A 0 c [] := ⟨rfl, by simp, RX.nil _ _ _ _ _⟩
/-- The cells of the q-th report, as a walk spells them. -/
theorem RR.at {w : World} {B : Nat} {A : Option Addr} {n c : Nat} {L : List Rv} (h : RR w B A n c L) {q : Nat} (hq : q < L.length) : ∃ b off, A = some ⟨b, off, none⟩ ∧ b < B ∧ w.cell? ⟨b, off + q * 10, none⟩ = some (.int .i64 L[q].r.kind) ∧
    w.cell? ⟨b, off + q * 10 + 1, none⟩ = some (.int .u32 (L[q].r.src : Int)) ∧ w.cell? ⟨b, off + q * 10 + 2, none⟩ = some (.int .u32 (L[q].r.about : Int)) ∧ w.cell? ⟨b, off + q * 10 + 3, none⟩ = some (.slice L[q].At L[q].r.tups.length L[q].ct) ∧
    w.cell? ⟨b, off + q * 10 + 4, none⟩ = some (.slice L[q].Aa L[q].r.abouts.length L[q].ca) ∧ w.cell? ⟨b, off + q * 10 + 5, none⟩ = some (.slice L[q].An L[q].r.nums.length L[q].cn) ∧ w.cell? ⟨b, off + q * 10 + 6, none⟩ = some (.int .u64 (L[q].r.rate : Int)) ∧
    w.cell? ⟨b, off + q * 10 + 7, none⟩ = some (.int .i64 L[q].r.ty) ∧ w.cell? ⟨b, off + q * 10 + 8, none⟩ = some (.int .i64 L[q].r.count) ∧ w.cell? ⟨b, off + q * 10 + 9, none⟩ = some (.slice L[q].Ab L[q].r.body.length L[q].cb) := by
  obtain ⟨b, off, e, hb, hc⟩ := h.2.2.2.2 (by rw [← h.1]; omega)
  have g := fun j hj => flat_get (f := Rv.cells) (k := 10) (fun _ => rfl) L q j hq hj
  refine ⟨b, off, e, hb, hc (q * 10) _ ((g 0 (by omega)).trans rfl), ?_, ?_, ?_, ?_, ?_, ?_, ?_, ?_, ?_⟩
  · rw [Nat.add_assoc]; exact hc (q * 10 + 1) _ ((g 1 (by omega)).trans rfl)
  · rw [Nat.add_assoc]; exact hc (q * 10 + 2) _ ((g 2 (by omega)).trans rfl)
  · rw [Nat.add_assoc]; exact hc (q * 10 + 3) _ ((g 3 (by omega)).trans rfl)
  · rw [Nat.add_assoc]; exact hc (q * 10 + 4) _ ((g 4 (by omega)).trans rfl)
  · rw [Nat.add_assoc]; exact hc (q * 10 + 5) _ ((g 5 (by omega)).trans rfl)
  · rw [Nat.add_assoc]; exact hc (q * 10 + 6) _ ((g 6 (by omega)).trans rfl)
  · rw [Nat.add_assoc]; exact hc (q * 10 + 7) _ ((g 7 (by omega)).trans rfl)
  · rw [Nat.add_assoc]; exact hc (q * 10 + 8) _ ((g 8 (by omega)).trans rfl)
  · rw [Nat.add_assoc]; exact hc (q * 10 + 9) _ ((g 9 (by omega)).trans rfl)
end Go.Proofs.Ytnchgmemajmkjaa
