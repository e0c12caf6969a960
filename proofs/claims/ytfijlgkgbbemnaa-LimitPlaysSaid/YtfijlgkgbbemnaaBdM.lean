/- Rows of tuples that a call owns; held tuples. No program's function. -/
import Derived.Test.YtfijlgkgbbemnaaNt
import Derived.Test.YtfijlgkgbbemnaaBdP
import Derived.Test.YtfijlgkgbbemnaaDr
namespace Go.Proofs.Ytfijlgkgbbemnaa
open Go.RowKit
set_option linter.unusedVariables false
set_option linter.unusedSimpArgs false
set_option maxRecDepth 20000

@[reducible] def Tup.val (x : Tup) : Value := .agg #[.int .u32 (x.owner : Int), .int .u64 (x.rate : Int), .int .i64 x.over]
def zT : Tup := ⟨0, 0, 0⟩
theorem zT_in : zT.In := ⟨by decide, by decide, ⟨by decide, by decide⟩⟩
theorem cellsT_one (l : List Tup) : ∀ u ∈ cellsT l, u.oneCell' = true := by
  intro u hu
  obtain ⟨x, _, hx⟩ := List.mem_flatMap.1 hu
  simp only [Tup.cells, List.mem_cons, List.not_mem_nil, or_false] at hx
  rcases hx with rfl | rfl | rfl <;> rfl
theorem cellsT_app (l r : List Tup) : cellsT (l ++ r) = cellsT l ++ cellsT r := List.flatMap_append
/-- A row of asks that the call owns. -/
def OwnTp (w : World) (base : Nat) (v : Value) (l : List Tup) : Prop := w.ownsRow base 31 3 v l.length (cellsT l)
theorem OwnTp.nil (w : World) (base : Nat) : OwnTp w base (.slice none 0 0) [] := own_nil w base 3 _
theorem OwnTp.on {w w' : World} {base : Nat} {v : Value} {l : List Tup} (h : OwnTp w base v l) (hb : Below w.heap.size w w') : OwnTp w' base v l := own_kept h hb
theorem OwnTp.rt {w : World} {base : Nat} {v : Value} {l : List Tup} (h : OwnTp w base v l) (hi : ∀ x ∈ l, x.In) : ∃ A c, v = .slice A l.length c ∧ RT w w.heap.size A l.length c l ∧ ∀ ad, A = some ad → base ≤ ad.block := by
  obtain ⟨A, c, e, hr, hb⟩ := own_rx (cellsT_len l) h
  exact ⟨A, c, e, ⟨rfl, hi, hr⟩, hb⟩
theorem tup_info : (Try.prog.info? 31).map (fun i => (i.zero, i.size, i.bytes)) = some (some zT.val, 3, 24) := by kernel_rfl
theorem run_appendTp {w : World} (base : Nat) (v : Value) (l : List Tup) (hown : OwnTp w base v l) (B : Nat) (A : Option Addr) (m c : Nat) (r : List Tup) (hr : RT w B A m c r) (hb : l.length + m ≤ 4398046511104) (hbase : base ≤ w.heap.size) :
    ∃ v' w', (Builtin.append_ #[46, 46] 46 #[v, .slice A m c]).run Try.prog w = .ok v' w' ∧ OwnTp w' base v' (l ++ r) ∧ w.grownBy w' v.ownBlock := by
  obtain ⟨v', w', h1, h2, h3, _⟩ := run_appendX base 46 46 31 zT.val 3 24 Try.underlying46 tup_info rfl (by omega) v l.length (cellsT l) hown B A m c (cellsT r) hr.2.2 (cellsT_one r) (by simp only [maxLen]; omega) (by omega) hbase
  refine ⟨v', w', h1, ?_, h3⟩
  unfold OwnTp
  rw [List.length_append, hr.1, cellsT_app]
  exact h2
/-- append of asks onto a row of asks. -/
theorem wpList_appendTp {w : World} {ops : Array Oper} {rest : List Oper} {o : Oper} {a : Act} {Q : Exit → Act → World → Prop} (hgd : o.guard = none) (s x : Operand)
    (ho : o.op = .call { callee := .builtin .append, args := #[s, x], argTypes := #[46, 46] }) (hty : o.type = 46)
    (base : Nat) (v : Value) (l : List Tup) (hs : a.eval s = v) (hown : OwnTp w base v l)
    (B : Nat) (A : Option Addr) (m c : Nat) (r : List Tup) (hx : a.eval x = .slice A m c) (hr : RT w B A m c r)
    (hb : l.length + m ≤ 4398046511104) (hbase : base ≤ w.heap.size)
    (h : ∀ v' w', OwnTp w' base v' (l ++ r) ∧ w.grownBy w' v.ownBlock → wpList Try.prog ops Q rest (a.put o.dst v') w') : wpList Try.prog ops Q (o :: rest) a w :=
  wpList_plain hgd fun K hK => by
    obtain ⟨v', w', hrun, h2⟩ := run_appendTp base v l hown B A m c r hr hb hbase
    unfold Oper.wp execOp
    simp only [ho, hty, resolve, invoke, builtin, Sem.run_bind, Sem.run_pure, Result.andThen_ok, List.map_toArray, List.map_cons, List.map_nil, hs, hx, hrun]
    exact hK _ _ (h v' w' h2)
/-- A literal of one ask reads as it. -/
theorem one_rt (w : World) (x : Tup) (hx : x.In) : RT (w.alloc (.cells #[.int .u32 (x.owner : Int), .int .u64 (x.rate : Int), .int .i64 x.over] 31)) (w.heap.size + 1) (some ⟨w.heap.size, 0, none⟩) 1 1 [x] := by
  refine ⟨rfl, by simpa using hx, ⟨rfl, Nat.le_refl _, fun _ => ⟨w.heap.size, 0, rfl, by omega, fun j v hj => ?_⟩⟩⟩
  have h : Blk (w.alloc (.cells #[.int .u32 (x.owner : Int), .int .u64 (x.rate : Int), .int .i64 x.over] 31)) w.heap.size 31 #[.int .u32 (x.owner : Int), .int .u64 (x.rate : Int), .int .i64 x.over] := Blk.new _ _ _
  rw [Nat.zero_add, h.cell j, ← hj]
  simp [cellsT, Tup.cells]
/-! ### Held -/
def holdT (t : Tup) : Ln := ⟨t.owner, min t.rate 1099511627776, min t.over.toNat 511⟩
def unT (a : Ln) : Tup := ⟨a.o, a.r, (a.v : Int)⟩
structure Ln.In (a : Ln) : Prop where
  o : a.o < 4294967296
  r : a.r ≤ 1099511627776
  v : a.v ≤ 511
theorem holdT_in {t : Tup} (h : t.In) : (holdT t).In := ⟨h.owner, Nat.min_le_right _ _, Nat.min_le_right _ _⟩
theorem unT_in {a : Ln} (h : a.In) : (unT a).In := ⟨h.o, by have := h.r; show a.r < _; omega, by have := h.v; show I64 (a.v : Int); unfold I64; omega⟩
theorem hold_un {a : Ln} (h : a.In) : holdT (unT a) = a := by
  have h1 := h.r
  have h2 := h.v
  refine Ln.eta rfl ?_ ?_
  · show min a.r 1099511627776 = a.r
    omega
  · show min (a.v : Int).toNat 511 = a.v
    omega
theorem un_inj {a b : Ln} (h : unT a = unT b) : a = b := by
  injection h with h1 h2 h3
  exact Ln.eta h1 h2 (by omega)
end Go.Proofs.Ytfijlgkgbbemnaa
