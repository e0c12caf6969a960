/- Law 14's asks: rows of five numbers each, in memory. No program's function. -/
import Derived.Test.YtfijlgkgbbemnaaBdM
namespace Go.Proofs.Ytfijlgkgbbemnaa
open Go.RowKit
set_option linter.unusedVariables false
set_option linter.unusedSimpArgs false
set_option maxRecDepth 20000

structure Ask where
  kind : Int
  t : Tup
  n : Int
structure Ask.In (x : Ask) : Prop where
  kind : I64 x.kind
  t : x.t.In
  n : I64 x.n
def zA : Ask := ⟨0, zT, 0⟩
theorem zA_in : zA.In := ⟨⟨by decide, by decide⟩, zT_in, ⟨by decide, by decide⟩⟩
def Ask.cells (x : Ask) : List Value := [.int .i64 x.kind, .int .u32 (x.t.owner : Int), .int .u64 (x.t.rate : Int), .int .i64 x.t.over, .int .i64 x.n]
@[reducible] def Ask.val (x : Ask) : Value := .agg #[.int .i64 x.kind, .int .u32 (x.t.owner : Int), .int .u64 (x.t.rate : Int), .int .i64 x.t.over, .int .i64 x.n]
def cellsA (l : List Ask) : List Value := l.flatMap Ask.cells
theorem cellsA_len (l : List Ask) : (cellsA l).length = l.length * 5 := flat_length (k := 5) (fun _ => rfl) l
theorem cellsA_one (l : List Ask) : ∀ u ∈ cellsA l, u.oneCell' = true := by
  intro u hu
  obtain ⟨x, _, hx⟩ := List.mem_flatMap.1 hu
  simp only [Ask.cells, List.mem_cons, List.not_mem_nil, or_false] at hx
  rcases hx with rfl | rfl | rfl | rfl | rfl <;> rfl
theorem cellsA_app (l r : List Ask) : cellsA (l ++ r) = cellsA l ++ cellsA r := List.flatMap_append
/-- The slice value '.slice A n c' reads as the asks l. -/
def RA (w : World) (B : Nat) (A : Option Addr) (n c : Nat) (l : List Ask) : Prop := l.length = n ∧ (∀ x ∈ l, x.In) ∧ RX w B A n c 5 (cellsA l)
theorem RA.on {w w' : World} {A : Option Addr} {n c : Nat} {l : List Ask} (h : RA w w.heap.size A n c l) (hb : Below w.heap.size w w') : RA w' w'.heap.size A n c l := ⟨h.1, h.2.1, h.2.2.on hb⟩
theorem RA.below {w w' : World} {B : Nat} {A : Option Addr} {n c : Nat} {l : List Ask} (h : RA w B A n c l) (hb : Below B w w') : RA w' B A n c l := ⟨h.1, h.2.1, h.2.2.below hb⟩
theorem RA.more {w : World} {B B' : Nat} {A : Option Addr} {n c : Nat} {l : List Ask} (h : RA w B A n c l) (hb : B ≤ B') : RA w B' A n c l := ⟨h.1, h.2.1, h.2.2.more hb⟩
theorem RA.nil (w : World) (B : Nat) (A : Option Addr) (c : Nat) : RA w B A 0 c [] := ⟨rfl, by simp, RX.nil _ _ _ _ _⟩
/-- The cells of the q-th ask, as a walk spells them. -/
theorem RA.at {w : World} {B : Nat} {A : Option Addr} {n c : Nat} {l : List Ask} (h : RA w B A n c l) {q : Nat} (hq : q < l.length) : ∃ b off, A = some ⟨b, off, none⟩ ∧ b < B ∧ w.cell? ⟨b, off + q * 5, none⟩ = some (.int .i64 l[q].kind) ∧ w.cell? ⟨b, off + q * 5 + 1, none⟩ = some (.int .u32 (l[q].t.owner : Int)) ∧ w.cell? ⟨b, off + q * 5 + 2, none⟩ = some (.int .u64 (l[q].t.rate : Int)) ∧ w.cell? ⟨b, off + q * 5 + 3, none⟩ = some (.int .i64 l[q].t.over) ∧ w.cell? ⟨b, off + q * 5 + 4, none⟩ = some (.int .i64 l[q].n) := by
  obtain ⟨b, off, e, hb, hc⟩ := h.2.2.2.2 (by rw [← h.1]; omega)
  have g := fun j hj => flat_get (f := Ask.cells) (k := 5) (fun _ => rfl) l q j hq hj
  refine ⟨b, off, e, hb, ?_, ?_, ?_, ?_, ?_⟩
  · exact hc (q * 5) _ ((g 0 (by omega)).trans rfl)
  · rw [Nat.add_assoc]; exact hc (q * 5 + 1) _ ((g 1 (by omega)).trans rfl)
  · rw [Nat.add_assoc]; exact hc (q * 5 + 2) _ ((g 2 (by omega)).trans rfl)
  · rw [Nat.add_assoc]; exact hc (q * 5 + 3) _ ((g 3 (by omega)).trans rfl)
  · rw [Nat.add_assoc]; exact hc (q * 5 + 4) _ ((g 4 (by omega)).trans rfl)
/-- A row of asks that the call owns. -/
def OwnA (w : World) (base : Nat) (v : Value) (l : List Ask) : Prop := w.ownsRow base 34 5 v l.length (cellsA l)
theorem OwnA.nil (w : World) (base : Nat) : OwnA w base (.slice none 0 0) [] := own_nil w base 5 _
theorem OwnA.on {w w' : World} {base : Nat} {v : Value} {l : List Ask} (h : OwnA w base v l) (hb : Below w.heap.size w w') : OwnA w' base v l := own_kept h hb
theorem OwnA.ra {w : World} {base : Nat} {v : Value} {l : List Ask} (h : OwnA w base v l) (hi : ∀ x ∈ l, x.In) : ∃ A c, v = .slice A l.length c ∧ RA w w.heap.size A l.length c l ∧ ∀ ad, A = some ad → base ≤ ad.block := by
  obtain ⟨A, c, e, hr, hb⟩ := own_rx (cellsA_len l) h
  exact ⟨A, c, e, ⟨rfl, hi, hr⟩, hb⟩
theorem ask_info : (Try.prog.info? 34).map (fun i => (i.zero, i.size, i.bytes)) = some (some zA.val, 5, 40) := by kernel_rfl
theorem run_appendA {w : World} (base : Nat) (v : Value) (l : List Ask) (hown : OwnA w base v l) (B : Nat) (A : Option Addr) (m c : Nat) (r : List Ask) (hr : RA w B A m c r) (hb : l.length + m ≤ 3518437208883) (hbase : base ≤ w.heap.size) :
    ∃ v' w', (Builtin.append_ #[27, 27] 27 #[v, .slice A m c]).run Try.prog w = .ok v' w' ∧ OwnA w' base v' (l ++ r) ∧ w.grownBy w' v.ownBlock := by
  obtain ⟨v', w', h1, h2, h3, _⟩ := run_appendX base 27 27 34 zA.val 5 40 Try.underlying27 ask_info rfl (by omega) v l.length (cellsA l) hown B A m c (cellsA r) hr.2.2 (cellsA_one r) (by simp only [maxLen]; omega) (by omega) hbase
  refine ⟨v', w', h1, ?_, h3⟩
  unfold OwnA
  rw [List.length_append, hr.1, cellsA_app]
  exact h2
/-- append of asks onto a row of asks. -/
theorem wpList_appendA {w : World} {ops : Array Oper} {rest : List Oper} {o : Oper} {a : Act} {Q : Exit → Act → World → Prop} (hgd : o.guard = none) (s x : Operand)
    (ho : o.op = .call { callee := .builtin .append, args := #[s, x], argTypes := #[27, 27] }) (hty : o.type = 27)
    (base : Nat) (v : Value) (l : List Ask) (hs : a.eval s = v) (hown : OwnA w base v l)
    (B : Nat) (A : Option Addr) (m c : Nat) (r : List Ask) (hx : a.eval x = .slice A m c) (hr : RA w B A m c r)
    (hb : l.length + m ≤ 3518437208883) (hbase : base ≤ w.heap.size)
    (h : ∀ v' w', OwnA w' base v' (l ++ r) ∧ w.grownBy w' v.ownBlock → wpList Try.prog ops Q rest (a.put o.dst v') w') : wpList Try.prog ops Q (o :: rest) a w :=
  wpList_plain hgd fun K hK => by
    obtain ⟨v', w', hrun, h2⟩ := run_appendA base v l hown B A m c r hr hb hbase
    unfold Oper.wp execOp
    simp only [ho, hty, resolve, invoke, builtin, Sem.run_bind, Sem.run_pure, Result.andThen_ok, List.map_toArray, List.map_cons, List.map_nil, hs, hx, hrun]
    exact hK _ _ (h v' w' h2)
/-- A literal of one ask reads as it. -/
theorem one_ra (w : World) (x : Ask) (hx : x.In) : RA (w.alloc (.cells #[.int .i64 x.kind, .int .u32 (x.t.owner : Int), .int .u64 (x.t.rate : Int), .int .i64 x.t.over, .int .i64 x.n] 34)) (w.heap.size + 1) (some ⟨w.heap.size, 0, none⟩) 1 1 [x] := by
  refine ⟨rfl, by simpa using hx, ⟨rfl, Nat.le_refl _, fun _ => ⟨w.heap.size, 0, rfl, by omega, fun j v hj => ?_⟩⟩⟩
  have h : Blk (w.alloc (.cells #[.int .i64 x.kind, .int .u32 (x.t.owner : Int), .int .u64 (x.t.rate : Int), .int .i64 x.t.over, .int .i64 x.n] 34)) w.heap.size 34 #[.int .i64 x.kind, .int .u32 (x.t.owner : Int), .int .u64 (x.t.rate : Int), .int .i64 x.t.over, .int .i64 x.n] := Blk.new _ _ _
  rw [Nat.zero_add, h.cell j, ← hj]
  simp [cellsA, Ask.cells]
end Go.Proofs.Ytfijlgkgbbemnaa
