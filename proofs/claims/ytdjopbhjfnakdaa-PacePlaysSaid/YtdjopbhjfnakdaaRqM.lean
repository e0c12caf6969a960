/- The given reference's queue in memory: rows of strings, what lies where, what stays. -/
import Derived.Test.YtdjopbhjfnakdaaQuP
import Derived.Test.YtdjopbhjfnakdaaAppK
namespace Go.Proofs.Ytdjopbhjfnakdaa
open Go.RowKit
set_option linter.unusedVariables false
set_option linter.unusedSimpArgs false
set_option maxRecDepth 20000

def strB (b : List UInt8) : ByteArray := ⟨b.toArray⟩
theorem strB_size (b : List UInt8) : (strB b).size = b.length := by simp [strB, ByteArray.size]
def cellsQ (Q : Row8) : List Value := Q.map fun b => .string (strB b)
theorem cellsQ_len (Q : Row8) : (cellsQ Q).length = Q.length * 1 := by simp [cellsQ]
theorem cellsQ_one (Q : Row8) : ∀ u ∈ cellsQ Q, u.oneCell' = true := by
  intro u hu
  obtain ⟨x, _, rfl⟩ := List.mem_map.1 hu
  rfl
theorem cellsQ_app (P Q : Row8) : cellsQ (P ++ Q) = cellsQ P ++ cellsQ Q := List.map_append
/-- The slice value '.slice A n c' reads as the texts Q. -/
def RS (w : World) (B : Nat) (A : Option Addr) (n c : Nat) (Q : Row8) : Prop := Q.length = n ∧ RX w B A n c 1 (cellsQ Q)
theorem RS.on {w w' : World} {A : Option Addr} {n c : Nat} {Q : Row8} (h : RS w w.heap.size A n c Q) (hb : Below w.heap.size w w') : RS w' w'.heap.size A n c Q := ⟨h.1, h.2.on hb⟩
theorem RS.below {w w' : World} {B : Nat} {A : Option Addr} {n c : Nat} {Q : Row8} (h : RS w B A n c Q) (hb : Below B w w') : RS w' B A n c Q := ⟨h.1, h.2.below hb⟩
theorem RS.more {w : World} {B B' : Nat} {A : Option Addr} {n c : Nat} {Q : Row8} (h : RS w B A n c Q) (hB : B ≤ B') : RS w B' A n c Q := ⟨h.1, h.2.more hB⟩
theorem RS.nil (w : World) (B : Nat) (A : Option Addr) (c : Nat) : RS w B A 0 c [] := ⟨rfl, RX.nil _ _ _ _ _⟩
theorem RS.at {w : World} {B : Nat} {A : Option Addr} {n c : Nat} {Q : Row8} (h : RS w B A n c Q) {q : Nat} (hq : q < Q.length) : ∃ b off, A = some ⟨b, off, none⟩ ∧ b < B ∧ w.cell? ⟨b, off + q, none⟩ = some (.string (strB Q[q])) := by
  obtain ⟨b, off, e, hb, hc⟩ := h.2.2.2 (by rw [← h.1]; omega)
  refine ⟨b, off, e, hb, hc q _ ?_⟩
  simp [cellsQ, hq]
/-- .. a slice of it. -/
theorem RS.tail {w : World} {B : Nat} {b off n c : Nat} {x : List UInt8} {Q : Row8} (h : RS w B (some ⟨b, off, none⟩) (n + 1) (c + 1) (x :: Q)) : RS w B (some ⟨b, off + 1, none⟩) n c Q := by
  refine ⟨by have := h.1; simp at this; omega, ⟨by have := h.1; simp [cellsQ] at this ⊢; omega, by have := h.2.2.1; omega, fun hn => ?_⟩⟩
  obtain ⟨b', off', e, hb, hc⟩ := h.2.2.2 (by omega)
  injection e with e
  injection e with e1 e2
  subst e1 e2
  refine ⟨b, off + 1, rfl, hb, fun j v hj => ?_⟩
  have := hc (j + 1) v (by simpa [cellsQ] using hj)
  rw [show off + 1 + j = off + (j + 1) by omega]
  exact this
/-- A row of texts that the call owns. -/
def OwnS (w : World) (base : Nat) (v : Value) (Q : Row8) : Prop := w.ownsRow base 9 1 v Q.length (cellsQ Q)
theorem OwnS.nil (w : World) (base : Nat) : OwnS w base (.slice none 0 0) [] := own_nil w base 1 _
theorem OwnS.on {w w' : World} {base : Nat} {v : Value} {Q : Row8} (h : OwnS w base v Q) (hb : Below w.heap.size w w') : OwnS w' base v Q := own_kept h hb
theorem OwnS.rs {w : World} {base : Nat} {v : Value} {Q : Row8} (h : OwnS w base v Q) : ∃ A c, v = .slice A Q.length c ∧ RS w w.heap.size A Q.length c Q ∧ ∀ ad, A = some ad → base ≤ ad.block := by
  obtain ⟨A, c, e, hr, hb⟩ := own_rx (cellsQ_len Q) h
  exact ⟨A, c, e, ⟨rfl, hr⟩, hb⟩
theorem str_info : (Try.prog.info? 9).map (fun i => (i.zero, i.size, i.bytes)) = some (some (.string ⟨#[]⟩), 1, 16) := by kernel_rfl
theorem run_appendQ {w : World} (base : Nat) (v : Value) (Q : Row8) (hown : OwnS w base v Q) (B : Nat) (A : Option Addr) (m c : Nat) (R : Row8) (hr : RS w B A m c R) (hb : Q.length + m ≤ 1000000) (hbase : base ≤ w.heap.size) :
    ∃ v' w', (Builtin.append_ #[45, 45] 45 #[v, .slice A m c]).run Try.prog w = .ok v' w' ∧ OwnS w' base v' (Q ++ R) ∧ w.grownBy w' v.ownBlock ∧ OwnS w' base v Q ∧ (v'.ownBlock = v.ownBlock ∨ v'.ownBlock = some w.heap.size) := by
  obtain ⟨v', w', h1, h2, h3⟩ := run_appendK base 45 45 9 (.string ⟨#[]⟩) 1 16 Try.underlying45 str_info rfl (by omega) v Q.length (cellsQ Q) hown B A m c (cellsQ R) hr.2 (cellsQ_one R) (by simp only [maxLen]; omega) (by omega) hbase
  refine ⟨v', w', h1, ?_, h2.2.1, h3, h2.2.2⟩
  unfold OwnS
  rw [List.length_append, hr.1, cellsQ_app]
  exact h2.1
/-- append of texts onto a row of texts. -/
theorem wpList_appendQ {w : World} {ops : Array Oper} {rest : List Oper} {o : Oper} {a : Act} {K : Exit → Act → World → Prop} (hgd : o.guard = none) (s x : Operand)
    (ho : o.op = .call { callee := .builtin .append, args := #[s, x], argTypes := #[45, 45] }) (hty : o.type = 45)
    (base : Nat) (v : Value) (Q : Row8) (hs : a.eval s = v) (hown : OwnS w base v Q)
    (B : Nat) (A : Option Addr) (m c : Nat) (R : Row8) (hx : a.eval x = .slice A m c) (hr : RS w B A m c R)
    (hb : Q.length + m ≤ 1000000) (hbase : base ≤ w.heap.size)
    (h : ∀ v' w', OwnS w' base v' (Q ++ R) ∧ w.grownBy w' v.ownBlock ∧ OwnS w' base v Q ∧ (v'.ownBlock = v.ownBlock ∨ v'.ownBlock = some w.heap.size) → wpList Try.prog ops K rest (a.put o.dst v') w') : wpList Try.prog ops K (o :: rest) a w :=
  wpList_plain hgd fun K hK => by
    obtain ⟨v', w', hrun, h2⟩ := run_appendQ base v Q hown B A m c R hr hb hbase
    unfold Oper.wp execOp
    simp only [ho, hty, resolve, invoke, builtin, Sem.run_bind, Sem.run_pure, Result.andThen_ok, List.map_toArray, List.map_cons, List.map_nil, hs, hx, hrun]
    exact hK _ _ (h v' w' h2)
/-- A literal of one text; an empty one. -/
theorem one_rs (w : World) (x : List UInt8) : RS (w.alloc (.cells #[.string (strB x)] 9)) (w.heap.size + 1) (some ⟨w.heap.size, 0, none⟩) 1 1 [x] := by
  refine ⟨rfl, ⟨rfl, Nat.le_refl _, fun _ => ⟨w.heap.size, 0, rfl, by omega, fun j v hj => ?_⟩⟩⟩
  have h : Blk (w.alloc (.cells #[.string (strB x)] 9)) w.heap.size 9 #[.string (strB x)] := Blk.new _ _ _
  rw [Nat.zero_add, h.cell j, ← hj]
  simp [cellsQ]
theorem own_empty (w : World) (base : Nat) (hb : base ≤ w.heap.size) : OwnS (w.alloc (.cells #[] 9)) base (.slice (some ⟨w.heap.size, 0, none⟩) 0 0) [] := by
  refine ⟨rfl, .inr ⟨w.heap.size, 0, #[], rfl, hb, Blk.new _ _ _, Nat.le_refl _, by simp [maxLen], rfl, rfl⟩⟩
/-! ### What may turn: a set of blocks -/
theorem BkAt.onlyS {S : Nat → Prop} {w w' : World} {g r u l : Nat} (h : BkAt w g r u l) (ho : OnlyS S w w') (hs : ¬ S g) : BkAt w' g r u l := (ho.block g (Blk.lt h) hs).trans h
/-- The reference's queue: at G, its bucket at g', its row at A; what it stands on. -/
structure RqAt (w : World) (G g' r u l : Nat) (Q : Row8) (cut : Nat) (A : Option Addr) (c : Nat) : Prop where
  blk : Blk w G 49 #[.pointer (some ⟨g', 0, none⟩), .slice A Q.length c, .int .i64 (cut : Int)]
  bkt : BkAt w g' r u l
  row : RS w w.heap.size A Q.length c Q
  ne : G ≠ g'
/-- The blocks that it stands on. -/
def RqS (G g' : Nat) (A : Option Addr) (k : Nat) : Prop := k = G ∨ k = g' ∨ ∃ ad, A = some ad ∧ ad.block = k
end Go.Proofs.Ytdjopbhjfnakdaa
