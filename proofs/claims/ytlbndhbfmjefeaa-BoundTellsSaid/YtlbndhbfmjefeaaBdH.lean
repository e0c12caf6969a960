/- What law 13's walks begin with: masks, cuts of rows of tuples. -/
import Derived.Test.YtlbndhbfmjefeaaBdR
import Derived.Test.YtlbndhbfmjefeaaMsk
import Derived.Test.YtlbndhbfmjefeaaRegF
namespace Go.Proofs.Ytlbndhbfmjefeaa
open Go.RowKit
set_option linter.unusedVariables false
set_option linter.unusedSimpArgs false
set_option maxRecDepth 20000

def belT (I : World → Prop) (hI : ∀ a b, I a → Below a.heap.size a b → I b) : Frame where
  I := I
  Fr := fun a b => Below a.heap.size a b
  refl := fun w _ => Below.refl _ w
  trans := fun a b c h k => h.trans (k.mono h.size)
  drew := fun W h => ⟨hI W _ h (belowDrewN W 1), belowDrewN W 1⟩
theorem run_cut_t {P : Program} (t e : TypeId) (ht : P.underlying t = some (.slice e)) (i0 : TypeInfo) (hi : P.info? e = some i0) (A : Option Addr) (n c k : Nat) (hk : k ≤ c) (w : World) :
    (Instr.slice t (.slice A n c) none (some (.int .i64 (k : Int))) none).run P w = .ok (.slice A k c) w := by
  have e0 : (if c = 0 then A else A.map (·.add 0)) = A := by
    split
    · rfl
    · cases A with
      | none => rfl
      | some a => simp [Addr.add]
  have hs : P.elem t = e := by simp [Program.elem, ht]
  have h3 := run_slice_h (P := P) w t A n c (by rw [hs]; exact ht) .i64 (k : Nat) (by omega) (by omega)
  rw [hs] at h3
  rw [h3]
  simp [sizeOf, typeInfo, hi, sliced, Result.andThen, e0]
theorem cut_tup (A : Option Addr) (n c k : Nat) (hk : k ≤ c) (w : World) : (Instr.slice 22 (.slice A n c) none (some (.int .i64 (k : Int))) none).run Try.prog w = .ok (.slice A k c) w := by
  obtain ⟨i0, hi0, _⟩ := info_parts tup_info
  exact run_cut_t 22 30 Try.underlying22 i0 hi0 A n c k hk w
theorem RT.take {w : World} {B n c : Nat} {A : Option Addr} {l : List Tup} (h : RT w B A n c l) {k : Nat} (hk : k ≤ n) : RT w B A k c (l.take k) := by
  have hl := h.1
  refine ⟨by rw [List.length_take]; omega, fun t ht => h.2.1 t (List.mem_of_mem_take ht), ⟨by rw [cellsT_len, List.length_take]; congr 1; omega, Nat.le_trans hk h.2.2.2.1, fun hn => ?_⟩⟩
  obtain ⟨b, off, e, hb, hc⟩ := h.2.2.2.2 (by omega)
  refine ⟨b, off, e, hb, fun j v hj => hc j v ?_⟩
  have e2 : cellsT l = cellsT (l.take k) ++ cellsT (l.drop k) := by rw [← cellsT_app, List.take_append_drop]
  rw [e2, List.getElem?_append_left (List.getElem?_eq_some_iff.1 hj).1]
  exact hj
theorem wpList_when {P : Program} {w : World} {ops : Array Oper} {rest : List Oper} {o : Oper} {a : Act} {Q : Exit → Act → World → Prop} (hw : Region.wanted o (yielded ops a.tmps) = true)
    (h : ∀ K : Act → World → Prop, (∀ a w, wpList P ops Q rest a w → K a w) → o.wp P a w K Q) : wpList P ops Q (o :: rest) a w :=
  wpList_step fun K hK => by rw [if_pos hw]; exact h K hK
theorem wpList_appendTp_w {w : World} {ops : Array Oper} {rest : List Oper} {o : Oper} {a : Act} {Q : Exit → Act → World → Prop} (hgd : Region.wanted o (yielded ops a.tmps) = true) (s x : Operand)
    (ho : o.op = .call { callee := .builtin .append, args := #[s, x], argTypes := #[22, 22] }) (hty : o.type = 22)
    (base : Nat) (v : Value) (l : List Tup) (hs : a.eval s = v) (hown : OwnTp w base v l)
    (B : Nat) (A : Option Addr) (m c : Nat) (r : List Tup) (hx : a.eval x = .slice A m c) (hr : RT w B A m c r)
    (hb : l.length + m ≤ 4398046511104) (hbase : base ≤ w.heap.size)
    (h : ∀ v' w', OwnTp w' base v' (l ++ r) ∧ w.grownBy w' v.ownBlock → wpList Try.prog ops Q rest (a.put o.dst v') w') : wpList Try.prog ops Q (o :: rest) a w :=
  wpList_when hgd fun K hK => by
    obtain ⟨v', w', hrun, h2⟩ := run_appendTp base v l hown B A m c r hr hb hbase
    unfold Oper.wp execOp
    simp only [ho, hty, resolve, invoke, builtin, Sem.run_bind, Sem.run_pure, Result.andThen_ok, List.map_toArray, List.map_cons, List.map_nil, hs, hx, hrun]
    exact hK _ _ (h v' w' h2)
end Go.Proofs.Ytlbndhbfmjefeaa
