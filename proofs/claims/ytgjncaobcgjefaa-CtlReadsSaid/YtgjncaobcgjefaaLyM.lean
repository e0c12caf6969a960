/- Layers: what may be one; in memory: a block of three cells, slices of layers, rows that grow. No program's function. -/
import Derived.Test.YtgjncaobcgjefaaRidB
import Derived.Test.YtgjncaobcgjefaaRx
import Derived.Laws.StructEq
namespace Go.Proofs.Ytgjncaobcgjefaa
open Go.RowKit
set_option linter.unusedVariables false
set_option linter.unusedSimpArgs false
set_option maxRecDepth 20000

/-! ### Three cells that are written over whole -/
def set3 (W : World) (R : Nat) (v0 v1 v2 : Value) : World := ((W.setCell ⟨R, 0, none⟩ v0).setCell ⟨R, 1, none⟩ v1).setCell ⟨R, 2, none⟩ v2
section
variable {W : World} {R : Nat} {t : TypeId} {c0 c1 c2 v0 v1 v2 : Value}
theorem set3_blk (h : Blk W R t #[c0, c1, c2]) : Blk (set3 W R v0 v1 v2) R t #[v0, v1, v2] := by
  have h1 : Blk (W.setCell ⟨R, 0, none⟩ v0) R t #[v0, c1, c2] := by
    have := h.set_ 0 v0
    simpa only [List.setIfInBounds_toArray, List.set_cons_succ, List.set_cons_zero] using this
  have h2 : Blk ((W.setCell ⟨R, 0, none⟩ v0).setCell ⟨R, 1, none⟩ v1) R t #[v0, v1, c2] := by
    have := h1.set_ 1 v1
    simpa only [List.setIfInBounds_toArray, List.set_cons_succ, List.set_cons_zero] using this
  have h3 : Blk (((W.setCell ⟨R, 0, none⟩ v0).setCell ⟨R, 1, none⟩ v1).setCell ⟨R, 2, none⟩ v2) R t #[v0, v1, v2] := by
    have := h2.set_ 2 v2
    simpa only [List.setIfInBounds_toArray, List.set_cons_succ, List.set_cons_zero] using this
  exact h3
theorem set3_below {B : Nat} (hR : B ≤ R) : Below B W (set3 W R v0 v1 v2) := ((Below.setCell (Below.refl _ _) (p := ⟨R, 0, none⟩) hR _).setCell (p := ⟨R, 1, none⟩) hR _).setCell (p := ⟨R, 2, none⟩) hR _
theorem set3_size : (set3 W R v0 v1 v2).heap.size = W.heap.size := by simp [set3, World.setCell]
theorem blk3 (h : Blk W R t #[v0, v1, v2]) : (W.cell? ⟨R, 0, none⟩ = some v0 ∧ W.cell? ⟨R, 1, none⟩ = some v1 ∧ W.cell? ⟨R, 2, none⟩ = some v2) ∧ W.frozen? ⟨R, 0, none⟩ = false ∧ W.frozen? ⟨R, 1, none⟩ = false ∧ W.frozen? ⟨R, 2, none⟩ = false :=
  ⟨⟨h.cell 0, h.cell 1, h.cell 2⟩, h.frozen 0, h.frozen 1, h.frozen 2⟩
end
/-! ### Layers -/
structure Lay where
  rid : ByteArray
  ssrc : Nat
  height : Int
structure Lay.In (x : Lay) : Prop where
  rid : x.rid.size ≤ 140737488355328
  ssrc : x.ssrc < 4294967296
  height : I64 x.height
def Lay.cells (x : Lay) : List Value := [.string x.rid, .int .u32 (x.ssrc : Int), .int .i64 x.height]
/-- A layer's value, as a walk spells it. -/
@[reducible] def Lay.val (x : Lay) : Value := .agg #[.string x.rid, .int .u32 (x.ssrc : Int), .int .i64 x.height]
def zL : Lay := ⟨⟨#[]⟩, 0, 0⟩
theorem zL_in : zL.In := ⟨by decide, by decide, ⟨by decide, by decide⟩⟩
theorem zL_val : zL.val = .agg #[.string ⟨#[]⟩, .int .u32 0, .int .i64 0] := rfl
/-- May it be a layer? -/
def okL (x : Lay) : Bool := right x.rid && decide (1 ≤ x.height ∧ x.height ≤ 8192)
/-- What is answered of one, and why. -/
def rgt (x : Lay) : Lay := if okL x = true then x else zL
def rgE (x : Lay) : Int := if okL x = true then 0 else 12
theorem rgt_in {x : Lay} (h : x.In) : (rgt x).In := by
  unfold rgt
  split
  · exact h
  · exact zL_in
theorem rgt_ok {x : Lay} (h : okL x = true) : rgt x = x := if_pos h
theorem rgE_ok {x : Lay} (h : okL x = true) : rgE x = 0 := if_pos h
theorem rgt_no {x : Lay} (h : okL x = false) : rgt x = zL := by unfold rgt; rw [h]; rfl
theorem rgE_no {x : Lay} (h : okL x = false) : rgE x = 12 := by unfold rgE; rw [h]; rfl
/-- Of three values. -/
def inS (n : Int) : Bool := decide (0 ≤ n ∧ n ≤ 4294967295)
def l3 (s : ByteArray) (n m : Int) : Lay := if inS n = true then rgt ⟨s, n.toNat, m⟩ else zL
def l3E (s : ByteArray) (n m : Int) : Int := if inS n = true then rgE ⟨s, n.toNat, m⟩ else 1
theorem l3_in {s : ByteArray} {n m : Int} (hs : s.size ≤ 140737488355328) (hm : I64 m) : (l3 s n m).In := by
  unfold l3
  split
  · rename_i h
    exact rgt_in ⟨hs, by simp only [inS, decide_eq_true_eq] at h; show n.toNat < _; omega, hm⟩
  · exact zL_in
def cellsL (l : List Lay) : List Value := l.flatMap Lay.cells
theorem cellsL_len (l : List Lay) : (cellsL l).length = l.length * 3 := flat_length (k := 3) (fun _ => rfl) l
theorem cellsL_one (l : List Lay) : ∀ u ∈ cellsL l, u.oneCell' = true := by
  intro u hu
  obtain ⟨x, _, hx⟩ := List.mem_flatMap.1 hu
  simp only [Lay.cells, List.mem_cons, List.not_mem_nil, or_false] at hx
  rcases hx with rfl | rfl | rfl <;> rfl
theorem cellsL_app (l r : List Lay) : cellsL (l ++ r) = cellsL l ++ cellsL r := List.flatMap_append
theorem cellsL_single (x : Lay) : cellsL [x] = [.string x.rid, .int .u32 (x.ssrc : Int), .int .i64 x.height] := rfl
/-- The slice value '.slice A n c' reads as the layers l. -/
def RL (w : World) (B : Nat) (A : Option Addr) (n c : Nat) (l : List Lay) : Prop := l.length = n ∧ (∀ x ∈ l, x.In) ∧ RX w B A n c 3 (cellsL l)
theorem RL.on {w w' : World} {A : Option Addr} {n c : Nat} {l : List Lay} (h : RL w w.heap.size A n c l) (hb : Below w.heap.size w w') : RL w' w'.heap.size A n c l := ⟨h.1, h.2.1, h.2.2.on hb⟩
theorem RL.below {w w' : World} {B : Nat} {A : Option Addr} {n c : Nat} {l : List Lay} (h : RL w B A n c l) (hb : Below B w w') : RL w' B A n c l := ⟨h.1, h.2.1, h.2.2.below hb⟩
theorem RL.more {w : World} {B B' : Nat} {A : Option Addr} {n c : Nat} {l : List Lay} (h : RL w B A n c l) (hb : B ≤ B') : RL w B' A n c l := ⟨h.1, h.2.1, h.2.2.more hb⟩
theorem RL.nil (w : World) (B : Nat) (A : Option Addr) (c : Nat) : RL w B A 0 c [] := ⟨rfl, by simp, RX.nil _ _ _ _ _⟩
/-- The cells of the q-th layer, as a walk spells them. -/
theorem RL.at {w : World} {B : Nat} {A : Option Addr} {n c : Nat} {l : List Lay} (h : RL w B A n c l) {q : Nat} (hq : q < l.length) : ∃ b off, A = some ⟨b, off, none⟩ ∧ b < B ∧ w.cell? ⟨b, off + q * 3, none⟩ = some (.string l[q].rid) ∧ w.cell? ⟨b, off + q * 3 + 1, none⟩ = some (.int .u32 (l[q].ssrc : Int)) ∧ w.cell? ⟨b, off + q * 3 + 2, none⟩ = some (.int .i64 l[q].height) := by
  obtain ⟨b, off, e, hb, hc⟩ := h.2.2.2.2 (by rw [← h.1]; omega)
  have g := fun j hj => flat_get (f := Lay.cells) (k := 3) (fun _ => rfl) l q j hq hj
  refine ⟨b, off, e, hb, ?_, ?_, ?_⟩
  · exact hc (q * 3) _ ((g 0 (by omega)).trans rfl)
  · rw [Nat.add_assoc]; exact hc (q * 3 + 1) _ ((g 1 (by omega)).trans rfl)
  · rw [Nat.add_assoc]; exact hc (q * 3 + 2) _ ((g 2 (by omega)).trans rfl)
/-- A row of layers that the call owns. -/
def OwnL (w : World) (base : Nat) (v : Value) (l : List Lay) : Prop := w.ownsRow base 46 3 v l.length (cellsL l)
theorem OwnL.nil (w : World) (base : Nat) : OwnL w base (.slice none 0 0) [] := own_nil w base 3 _
theorem OwnL.on {w w' : World} {base : Nat} {v : Value} {l : List Lay} (h : OwnL w base v l) (hb : Below w.heap.size w w') : OwnL w' base v l := own_kept h hb
theorem OwnL.rl {w : World} {base : Nat} {v : Value} {l : List Lay} (h : OwnL w base v l) (hi : ∀ x ∈ l, x.In) : ∃ A c, v = .slice A l.length c ∧ RL w w.heap.size A l.length c l ∧ ∀ ad, A = some ad → base ≤ ad.block := by
  obtain ⟨A, c, e, hr, hb⟩ := own_rx (cellsL_len l) h
  exact ⟨A, c, e, ⟨rfl, hi, hr⟩, hb⟩
theorem lay_info : (Try.prog.info? 46).map (fun i => (i.zero, i.size, i.bytes)) = some (some zL.val, 3, 32) := by kernel_rfl
theorem run_appendL {w : World} (base : Nat) (v : Value) (l : List Lay) (hown : OwnL w base v l) (B : Nat) (A : Option Addr) (m c : Nat) (r : List Lay) (hr : RL w B A m c r) (hb : l.length + m ≤ 1000000) (hbase : base ≤ w.heap.size) :
    ∃ v' w', (Builtin.append_ #[23, 23] 23 #[v, .slice A m c]).run Try.prog w = .ok v' w' ∧ OwnL w' base v' (l ++ r) ∧ w.grownBy w' v.ownBlock := by
  obtain ⟨v', w', h1, h2, h3, _⟩ := run_appendX base 23 23 46 zL.val 3 32 Try.underlying23 lay_info rfl (by omega) v l.length (cellsL l) hown B A m c (cellsL r) hr.2.2 (cellsL_one r) (by simp only [maxLen]; omega) (by omega) hbase
  refine ⟨v', w', h1, ?_, h3⟩
  unfold OwnL
  rw [List.length_append, hr.1, cellsL_app]
  exact h2
/-- append of layers onto a row of layers. -/
theorem wpList_appendL {w : World} {ops : Array Oper} {rest : List Oper} {o : Oper} {a : Act} {Q : Exit → Act → World → Prop} (hgd : o.guard = none) (s x : Operand)
    (ho : o.op = .call { callee := .builtin .append, args := #[s, x], argTypes := #[23, 23] }) (hty : o.type = 23)
    (base : Nat) (v : Value) (l : List Lay) (hs : a.eval s = v) (hown : OwnL w base v l)
    (B : Nat) (A : Option Addr) (m c : Nat) (r : List Lay) (hx : a.eval x = .slice A m c) (hr : RL w B A m c r)
    (hb : l.length + m ≤ 1000000) (hbase : base ≤ w.heap.size)
    (h : ∀ v' w', OwnL w' base v' (l ++ r) ∧ w.grownBy w' v.ownBlock → wpList Try.prog ops Q rest (a.put o.dst v') w') : wpList Try.prog ops Q (o :: rest) a w :=
  wpList_plain hgd fun K hK => by
    obtain ⟨v', w', hrun, h2⟩ := run_appendL base v l hown B A m c r hr hb hbase
    unfold Oper.wp execOp
    simp only [ho, hty, resolve, invoke, builtin, Sem.run_bind, Sem.run_pure, Result.andThen_ok, List.map_toArray, List.map_cons, List.map_nil, hs, hx, hrun]
    exact hK _ _ (h v' w' h2)
/-- A literal of one layer reads as it. -/
theorem one_rl (w : World) (x : Lay) (hx : x.In) : RL (w.alloc (.cells #[.string x.rid, .int .u32 (x.ssrc : Int), .int .i64 x.height] 46)) (w.heap.size + 1) (some ⟨w.heap.size, 0, none⟩) 1 1 [x] := by
  refine ⟨rfl, by simpa using hx, ⟨rfl, Nat.le_refl _, fun _ => ⟨w.heap.size, 0, rfl, by omega, fun j v hj => ?_⟩⟩⟩
  have h : Blk (w.alloc (.cells #[.string x.rid, .int .u32 (x.ssrc : Int), .int .i64 x.height] 46)) w.heap.size 46 #[.string x.rid, .int .u32 (x.ssrc : Int), .int .i64 x.height] := Blk.new _ _ _
  rw [Nat.zero_add, h.cell j, ← hj]
  simp [cellsL_single]
theorem one_rl_at (w : World) (g : Nat) (hg : g = w.heap.size) (x : Lay) (hx : x.In) : RL (w.alloc (.cells #[.string x.rid, .int .u32 (x.ssrc : Int), .int .i64 x.height] 46)) (w.heap.size + 1) (some ⟨g, 0, none⟩) 1 1 [x] := by
  subst hg
  exact one_rl w x hx
/-- Two layers that are the same are not unequal. -/
theorem neq_same (x : Lay) (W : World) : (binOp .neq 46 x.val x.val).run Try.prog W = .ok (.bool false) W := by
  have hS : Try.prog.underlying 46 = some (.struct (Try.prog.fieldsOf 46)) := by kernel_rfl
  have hp : Try.prog.stoodInHeld 46 = false := by kernel_rfl
  have u0 := Try.underlying9
  have u1 := Try.underlying44
  have u2 := Try.underlying3
  have a0 := Try.isAgg9
  have a1 := Try.isAgg44
  have a2 := Try.isAgg3
  have z0 := Try.sizeOf9
  have z1 := Try.sizeOf44
  have z2 := Try.sizeOf3
  rw [run_neq_struct, show (10000 : Nat) = 9999 + 1 from rfl, run_equalIn_agg W 9999 _ _ _ hS hp]
  simp only [Program.fieldsOf, Try.underlying46]
  go_simp
end Go.Proofs.Ytgjncaobcgjefaa
