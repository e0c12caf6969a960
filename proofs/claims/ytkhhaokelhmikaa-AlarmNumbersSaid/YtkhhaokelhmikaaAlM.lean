/- Rows of deadlines in memory. No program's function. -/
import Derived.Test.YtkhhaokelhmikaaRx
import Derived.Test.YtkhhaokelhmikaaAlP
namespace Go.Proofs.Ytkhhaokelhmikaa
open Go.RowKit
set_option linter.unusedVariables false
set_option linter.unusedSimpArgs false
set_option maxRecDepth 20000

def Du.cells (x : Du) : List Value := [.int .i64 x.t, .int .u64 (x.k : Int)]
@[reducible] def Du.val (x : Du) : Value := .agg #[.int .i64 x.t, .int .u64 (x.k : Int)]
def cellsD (l : List Du) : List Value := l.flatMap Du.cells
theorem cellsD_len (l : List Du) : (cellsD l).length = l.length * 2 := flat_length (k := 2) (fun _ => rfl) l
theorem cellsD_one (l : List Du) : ∀ u ∈ cellsD l, u.oneCell' = true := by
  intro u hu
  obtain ⟨x, _, hx⟩ := List.mem_flatMap.1 hu
  simp only [Du.cells, List.mem_cons, List.not_mem_nil, or_false] at hx
  rcases hx with rfl | rfl <;> rfl
theorem cellsD_app (l r : List Du) : cellsD (l ++ r) = cellsD l ++ cellsD r := List.flatMap_append
/-- The slice value '.slice A n c' reads as the asks l. -/
def RD (w : World) (B : Nat) (A : Option Addr) (n c : Nat) (l : List Du) : Prop := l.length = n ∧ (∀ x ∈ l, x.In) ∧ RX w B A n c 2 (cellsD l)
theorem RD.on {w w' : World} {A : Option Addr} {n c : Nat} {l : List Du} (h : RD w w.heap.size A n c l) (hb : Below w.heap.size w w') : RD w' w'.heap.size A n c l := ⟨h.1, h.2.1, h.2.2.on hb⟩
theorem RD.below {w w' : World} {B : Nat} {A : Option Addr} {n c : Nat} {l : List Du} (h : RD w B A n c l) (hb : Below B w w') : RD w' B A n c l := ⟨h.1, h.2.1, h.2.2.below hb⟩
theorem RD.more {w : World} {B B' : Nat} {A : Option Addr} {n c : Nat} {l : List Du} (h : RD w B A n c l) (hb : B ≤ B') : RD w B' A n c l := ⟨h.1, h.2.1, h.2.2.more hb⟩
theorem RD.nil (w : World) (B : Nat) (A : Option Addr) (c : Nat) : RD w B A 0 c [] := ⟨rfl, by simp, RX.nil _ _ _ _ _⟩
/-- The cells of the q-th ask, as a walk spells them. -/
theorem RD.at {w : World} {B : Nat} {A : Option Addr} {n c : Nat} {l : List Du} (h : RD w B A n c l) {q : Nat} (hq : q < l.length) : ∃ b off, A = some ⟨b, off, none⟩ ∧ b < B ∧ w.cell? ⟨b, off + q * 2, none⟩ = some (.int .i64 l[q].t) ∧ w.cell? ⟨b, off + q * 2 + 1, none⟩ = some (.int .u64 (l[q].k : Int)) := by
  obtain ⟨b, off, e, hb, hc⟩ := h.2.2.2.2 (by rw [← h.1]; omega)
  have g := fun j hj => flat_get (f := Du.cells) (k := 2) (fun _ => rfl) l q j hq hj
  refine ⟨b, off, e, hb, ?_, ?_⟩
  · exact hc (q * 2) _ ((g 0 (by omega)).trans rfl)
  · rw [Nat.add_assoc]; exact hc (q * 2 + 1) _ ((g 1 (by omega)).trans rfl)
/-- A row of asks that the call owns. -/
def OwnD (w : World) (base : Nat) (v : Value) (l : List Du) : Prop := w.ownsRow base 35 2 v l.length (cellsD l)
theorem OwnD.nil (w : World) (base : Nat) : OwnD w base (.slice none 0 0) [] := own_nil w base 2 _
theorem OwnD.on {w w' : World} {base : Nat} {v : Value} {l : List Du} (h : OwnD w base v l) (hb : Below w.heap.size w w') : OwnD w' base v l := own_kept h hb
theorem OwnD.rd {w : World} {base : Nat} {v : Value} {l : List Du} (h : OwnD w base v l) (hi : ∀ x ∈ l, x.In) : ∃ A c, v = .slice A l.length c ∧ RD w w.heap.size A l.length c l ∧ ∀ ad, A = some ad → base ≤ ad.block := by
  obtain ⟨A, c, e, hr, hb⟩ := own_rx (cellsD_len l) h
  exact ⟨A, c, e, ⟨rfl, hi, hr⟩, hb⟩
theorem du_info : (Try.prog.info? 35).map (fun i => (i.zero, i.size, i.bytes)) = some (some zD.val, 2, 16) := by kernel_rfl
theorem run_appendD {w : World} (base : Nat) (v : Value) (l : List Du) (hown : OwnD w base v l) (B : Nat) (A : Option Addr) (m c : Nat) (r : List Du) (hr : RD w B A m c r) (hb : l.length + m ≤ 8796093022208) (hbase : base ≤ w.heap.size) :
    ∃ v' w', (Builtin.append_ #[32, 32] 32 #[v, .slice A m c]).run Try.prog w = .ok v' w' ∧ OwnD w' base v' (l ++ r) ∧ w.grownBy w' v.ownBlock := by
  obtain ⟨v', w', h1, h2, h3, _⟩ := run_appendX base 32 32 35 zD.val 2 16 Try.underlying32 du_info rfl (by omega) v l.length (cellsD l) hown B A m c (cellsD r) hr.2.2 (cellsD_one r) (by simp only [maxLen]; omega) (by omega) hbase
  refine ⟨v', w', h1, ?_, h3⟩
  unfold OwnD
  rw [List.length_append, hr.1, cellsD_app]
  exact h2
/-- append of asks onto a row of asks. -/
theorem wpList_appendD {w : World} {ops : Array Oper} {rest : List Oper} {o : Oper} {a : Act} {Q : Exit → Act → World → Prop} (hgd : o.guard = none) (s x : Operand)
    (ho : o.op = .call { callee := .builtin .append, args := #[s, x], argTypes := #[32, 32] }) (hty : o.type = 32)
    (base : Nat) (v : Value) (l : List Du) (hs : a.eval s = v) (hown : OwnD w base v l)
    (B : Nat) (A : Option Addr) (m c : Nat) (r : List Du) (hx : a.eval x = .slice A m c) (hr : RD w B A m c r)
    (hb : l.length + m ≤ 8796093022208) (hbase : base ≤ w.heap.size)
    (h : ∀ v' w', OwnD w' base v' (l ++ r) ∧ w.grownBy w' v.ownBlock → wpList Try.prog ops Q rest (a.put o.dst v') w') : wpList Try.prog ops Q (o :: rest) a w :=
  wpList_plain hgd fun K hK => by
    obtain ⟨v', w', hrun, h2⟩ := run_appendD base v l hown B A m c r hr hb hbase
    unfold Oper.wp execOp
    simp only [ho, hty, resolve, invoke, builtin, Sem.run_bind, Sem.run_pure, Result.andThen_ok, List.map_toArray, List.map_cons, List.map_nil, hs, hx, hrun]
    exact hK _ _ (h v' w' h2)
/-- A literal of one ask reads as it. -/
theorem one_rd (w : World) (x : Du) (hx : x.In) : RD (w.alloc (.cells #[.int .i64 x.t, .int .u64 (x.k : Int)] 35)) (w.heap.size + 1) (some ⟨w.heap.size, 0, none⟩) 1 1 [x] := by
  refine ⟨rfl, by simpa using hx, ⟨rfl, Nat.le_refl _, fun _ => ⟨w.heap.size, 0, rfl, by omega, fun j v hj => ?_⟩⟩⟩
  have h : Blk (w.alloc (.cells #[.int .i64 x.t, .int .u64 (x.k : Int)] 35)) w.heap.size 35 #[.int .i64 x.t, .int .u64 (x.k : Int)] := Blk.new _ _ _
  rw [Nat.zero_add, h.cell j, ← hj]
  simp [cellsD, Du.cells]
end Go.Proofs.Ytkhhaokelhmikaa
