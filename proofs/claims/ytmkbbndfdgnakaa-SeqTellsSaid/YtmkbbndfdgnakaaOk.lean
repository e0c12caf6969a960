/- Rows of unsigned 16-bit numbers that the call owns. No program's function. -/
import Derived.Test.YtmkbbndfdgnakaaRx
import Derived.Test.YtmkbbndfdgnakaaRk
namespace Go.Proofs.Ytmkbbndfdgnakaa
open Go.RowKit
set_option linter.unusedVariables false
set_option linter.unusedSimpArgs false
set_option maxRecDepth 20000

def v16 (k : Nat) : Value := .int .u16 (k : Int)
def OwnH (w : World) (base : Nat) (v : Value) (l : List Nat) : Prop := w.ownsRow base 23 1 v l.length (l.map v16)
theorem OwnH.nil (w : World) (base : Nat) : OwnH w base (.slice none 0 0) [] := own_nil w base 1 _
theorem OwnH.on {w w' : World} {base : Nat} {v : Value} {l : List Nat} (h : OwnH w base v l) (hb : Below w.heap.size w w') : OwnH w' base v l := own_kept h hb
theorem h16_info : (Try.prog.info? 23).map (fun i => (i.zero, i.size, i.bytes)) = some (some (.int .u16 0), 1, 2) := by kernel_rfl
theorem v16_one (l : List Nat) : ∀ u ∈ l.map v16, u.oneCell' = true := by
  intro u hu
  obtain ⟨x, _, rfl⟩ := List.mem_map.1 hu
  rfl
theorem OwnH.rk {w : World} {base : Nat} {v : Value} {l : List Nat} (h : OwnH w base v l) (hl : ∀ x ∈ l, x < 65536) : ∃ A c, v = .slice A l.length c ∧ RK .u16 65536 w w.heap.size A l.length c (fun i => l.getD i 0) ∧ ∀ ad, A = some ad → base ≤ ad.block := by
  obtain ⟨A, c, e, hr, hb⟩ := own_rx (by simp) h
  refine ⟨A, c, e, ⟨hr.2.1, fun i hi => ?_, fun hn => ?_⟩, hb⟩
  · simp only [List.getD, List.getElem?_eq_getElem hi, Option.getD_some]
    exact hl _ (List.getElem_mem hi)
  · obtain ⟨b, off, rfl, hlt, hc⟩ := hr.2.2 hn
    refine ⟨b, off, rfl, hlt, fun i hi => hc i _ ?_⟩
    simp [List.getD, v16, hi]
theorem one_h16 (w : World) (x : Nat) : RX (w.alloc (.cells #[.int .u16 (x : Int)] 23)) (w.heap.size + 1) (some ⟨w.heap.size, 0, none⟩) 1 1 1 [v16 x] := by
  refine ⟨rfl, Nat.le_refl _, fun _ => ⟨w.heap.size, 0, rfl, by omega, fun j v hj => ?_⟩⟩
  rw [Nat.zero_add, (Blk.new w 23 _).cell j, ← hj]
  simp [v16]
theorem wpList_appendH {w : World} {ops : Array Oper} {rest : List Oper} {o : Oper} {a : Act} {Q : Exit → Act → World → Prop} (hgd : o.guard = none) (s x : Operand)
    (ho : o.op = .call { callee := .builtin .append, args := #[s, x], argTypes := #[24, 24] }) (hty : o.type = 24)
    (base : Nat) (v : Value) (l : List Nat) (hs : a.eval s = v) (hown : OwnH w base v l)
    (B : Nat) (A : Option Addr) (r : Nat) (hx : a.eval x = .slice A 1 1) (hr : RX w B A 1 1 1 [v16 r])
    (hb : l.length + 1 ≤ 1000000) (hbase : base ≤ w.heap.size)
    (h : ∀ v' w', OwnH w' base v' (l ++ [r]) ∧ w.grownBy w' v.ownBlock → wpList Try.prog ops Q rest (a.put o.dst v') w') : wpList Try.prog ops Q (o :: rest) a w := by
  refine wpList_appendX hgd s x 24 24 23 ho hty (.int .u16 0) 1 2 Try.underlying24 h16_info rfl (by omega) base v l.length (l.map v16) hs hown B A 1 1 [v16 r] hx hr (fun u hu => by rw [List.mem_singleton.1 hu]; rfl) (by simp only [maxLen]; omega) (by omega) hbase fun v' w' hA => h v' w' ⟨?_, hA.2.1⟩
  have := hA.1
  unfold OwnH
  rw [List.length_append, List.map_append]
  exact this
/-- The numbers so far. -/
structure NumH (w : World) (q : Nat) (v : Value) (l : List Nat) (W : World) : Prop where
  own : OwnH W w.heap.size v l
  ins : ∀ x ∈ l, x < 65536
  len : l.length = q
  below : Below w.heap.size w W
theorem NumH.start {w W : World} (hb : Below w.heap.size w W) : NumH w 0 (.slice none 0 0) [] W := ⟨OwnH.nil _ _, by simp, rfl, hb⟩
theorem NumH.on {w W W' : World} {q : Nat} {v : Value} {l : List Nat} (h : NumH w q v l W) (hb : Below W.heap.size W W') : NumH w q v l W' := ⟨h.own.on hb, h.ins, h.len, h.below.trans (hb.mono h.below.size)⟩
theorem NumH.more {w W W9 : World} {q x : Nat} {v v9 : Value} {l : List Nat} {o : Obj} (h : NumH w q v l W) (hx : x < 65536) (ha : OwnH W9 w.heap.size v9 (l ++ [x])) (hg : (W.alloc o).grownBy W9 v.ownBlock) : NumH w (q + 1) v9 (l ++ [x]) W9 :=
  ⟨ha, fun y hy => by
    rcases List.mem_append.1 hy with h2 | h2
    · exact h.ins y h2
    · rw [List.mem_singleton] at h2
      omega, by rw [List.length_append, h.len]; rfl, below_grown (h.below.trans ((Below.refl _ W).alloc (Nat.le_refl _) o |>.mono h.below.size)) (by have := h.below.size; simp; omega) hg (fun k hk => (World.ownsRow.lt h.own k hk).1)⟩
theorem NumH.rk {w W : World} {q c : Nat} {A : Option Addr} {l : List Nat} (h : NumH w q (.slice A q c) l W) : RK .u16 65536 W W.heap.size A q c (fun i => l.getD i 0) := by
  obtain ⟨A', c', e, hr, _⟩ := h.own.rk h.ins
  rw [h.len] at e hr
  injection e with e1 _ e3
  subst e1
  subst e3
  exact hr
theorem NumH.val {w W : World} {q : Nat} {v : Value} {l : List Nat} (h : NumH w q v l W) : ∃ A c, v = .slice A q c := by
  obtain ⟨A', c', e, _⟩ := h.own.rk h.ins
  rw [h.len] at e
  exact ⟨A', c', e⟩
end Go.Proofs.Ytmkbbndfdgnakaa
