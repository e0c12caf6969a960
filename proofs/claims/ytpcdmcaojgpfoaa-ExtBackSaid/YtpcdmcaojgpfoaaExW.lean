/- What the walk of limelightlaw4.ExtNumbers takes: rows of elements appended whole (also at a guarded operation); a tail of a row of bytes; limelightlaw4.tape. -/
import Derived.Test.YtpcdmcaojgpfoaaExK
import Derived.Test.YtpcdmcaojgpfoaaCTapeE
namespace Go.Proofs.Ytpcdmcaojgpfoaa.RP
open Go.RowKit
set_option linter.unusedVariables false
set_option linter.unusedSimpArgs false
set_option maxRecDepth 20000

theorem OwnE_empty (w : World) (base : Nat) (hb : base ≤ w.heap.size) : OwnE (w.alloc (.cells #[] 51)) base (.slice (some ⟨w.heap.size, 0, none⟩) 0 0) [] := by
  have := World.ownsRow_made (base := base) (e := 51) (size := 2) w #[] 0 hb (Nat.zero_le _) rfl
  exact this
theorem run_appendE (w : World) (base : Nat) (v : Value) (E : List El) (hown : OwnE w base v E) (A : Option Addr) (n c : Nat) (F : List El) (hF : RE w w.heap.size A n c F) (hb : E.length + n ≤ 1000) (hbase : base ≤ w.heap.size) (ty : TypeId) :
    ∃ v' w', (Builtin.append_ #[44, 44] ty #[v, .slice A n c]).run Try.prog w = .ok v' w' ∧ OwnE w' base v' (E ++ F) ∧ Below base w w' := by
  obtain ⟨i0, hi0, hz0, hz1, hz2⟩ := info_parts elem_info
  have hl := hF.1
  rcases A with _ | ad
  · have hn : n = 0 := by
      rcases Nat.eq_zero_or_pos n with h0 | h0
      · exact h0
      · obtain ⟨b, off, h, _⟩ := hF.2.2.2 h0
        cases h
    subst hn
    obtain rfl : F = [] := List.eq_nil_of_length_eq_zero hl
    exact ⟨v, w, run_append_nil8 w base _ _ 51 i0 2 Try.underlying44 hi0 v _ _ hown c, by rw [List.append_nil]; exact hown, Below.refl _ _⟩
  · have hcells : ∀ j u, (cellsE F)[j]? = some u → w.cell? (ad.add j) = some u := by
      intro j u hj
      have hj2 : j < n * 2 := by
        have := (List.getElem?_eq_some_iff.1 hj).1
        rw [cellsE_len, hl] at this
        exact this
      obtain ⟨b, off, e, _, hc⟩ := hF.2.2.2 (by omega)
      injection e with e
      subst e
      have e1 : (⟨b, off, none⟩ : Addr).add j = ⟨b, off + j, none⟩ := by unfold Addr.add; split <;> simp_all
      rw [e1]
      exact hc j u hj
    have hone : ∀ u ∈ cellsE F, u.oneCell' = true := by
      intro u hu
      unfold cellsE at hu
      obtain ⟨e, _, he⟩ := List.mem_flatMap.1 hu
      simp [El.cells] at he
      rcases he with rfl | rfl <;> rfl
    obtain ⟨v', w', hrun, h2, h3, _, _⟩ := run_append_own_at (P := Try.prog) w base 44 ty 51 i0 _ 2 32 Try.underlying44 hi0 hz0 hz1 hz2 rfl (by omega) v _ _ hown ad n c (cellsE F) (by rw [cellsE_len, hl]) hcells hone (by simp only [maxLen]; omega) (by omega) hbase
    refine ⟨v', w', hrun, ?_, (Below.refl base w).grown h3 hbase fun k hk => (World.ownsRow.lt hown k hk).1⟩
    unfold OwnE
    rw [cellsE_append, List.length_append, hl]
    exact h2
theorem wpList_appendE {w : World} {ops : Array Oper} {rest : List Oper} {o : Oper} {a : Act} {Q : Exit → Act → World → Prop} (hgd : Region.wanted o (yielded ops a.tmps) = true) (s x : Operand)
    (ho : o.op = .call { callee := .builtin .append, args := #[s, x], argTypes := #[44, 44] })
    (base : Nat) (v : Value) (E : List El) (hs : a.eval s = v) (hown : OwnE w base v E) (A : Option Addr) (n c : Nat) (F : List El) (hx : a.eval x = .slice A n c) (hF : RE w w.heap.size A n c F) (hb : E.length + n ≤ 1000) (hbase : base ≤ w.heap.size)
    (h : ∀ v' w', OwnE w' base v' (E ++ F) ∧ Below base w w' → wpList Try.prog ops Q rest (a.put o.dst v') w') : wpList Try.prog ops Q (o :: rest) a w :=
  wpList_step fun K hK => by
    rw [if_pos hgd]
    obtain ⟨v', w', hrun, h2⟩ := run_appendE w base v E hown A n c F hF hb hbase o.type
    unfold Oper.wp execOp
    simp only [ho, resolve, invoke, builtin, Sem.run_bind, Sem.run_pure, Result.andThen_ok, List.map_toArray, List.map_cons, List.map_nil, hs, hx, hrun]
    exact hK _ _ (h v' w' h2)
theorem tape_laid {w : World} {A : Option Addr} {n c : Nat} (h : RI w w.heap.size A n c) (hn : n ≤ 281474976710656) : TapeAt (w.alloc (.cells #[.slice A n c, .int .i64 0] 31)) w.heap.size :=
  ⟨A, n, c, 0, Blk.new _ _ _, Nat.zero_le _, hn, h.keep ((Below.refl _ w).alloc (Nat.le_refl _) _)⟩
theorem RE_kept {w w' : World} {g n c : Nat} {A : Option Addr} {E : List El} (h : RE w w.heap.size A n c E) (hT : TapeAt w g) (hm : Moves g w w') : RE w' w'.heap.size A n c E :=
  ⟨h.1, h.2.1, h.2.2.1.moves hT hm, fun hn => by
    obtain ⟨b, off, e, hlt, hc⟩ := h.2.2.2 hn
    have hlen := h.1
    obtain ⟨k1, k2⟩ := cellsE_get E 0 (by omega)
    have hne : b ≠ g := fun e' => by
      subst e'
      have c0 := hc _ _ k1
      have c1 := hc _ _ k2
      obtain ⟨A', n', c', k, hg, _⟩ := hT
      simp only [World.cell?, hg] at c0 c1
      match off with
      | 0 => simp at c0
      | 1 => simp at c1
      | o + 2 => simp at c0
    refine ⟨b, off, e, by have := hm.below.size; omega, fun j v hj => ?_⟩
    rw [← hc j v hj]
    exact World.cell?_of_block (hm.other b hlt hne)⟩
theorem run_to (w : World) (A : Option Addr) (n c k : Nat) (hk : k ≤ c) :
    (Instr.slice 26 (.slice A n c) none (some (.int .i64 (k : Int))) none).run Try.prog w = .ok (.slice A k c) w := by
  have e : (if c = 0 then A else A.map (·.add 0)) = A := by
    split
    · rfl
    · cases A with
      | none => rfl
      | some a => simp [Addr.add]
  have hs : (Try.prog.elem 26) = 5 := by simp [Program.elem, Try.underlying26]
  have h3 := run_slice_h (P := Try.prog) w 26 A n c (by rw [hs]; exact Try.underlying26) .i64 (k : Nat) (by omega) (by omega)
  rw [hs] at h3
  obtain ⟨i0, hi0, hz0, hz1, hz2⟩ := info_parts u8_info
  rw [h3]
  simp [sizeOf, typeInfo, hi0, hz1, sliced, Result.andThen, e]
theorem run_from (w : World) (A : Option Addr) (n c k : Nat) (hk : k ≤ n) (hn : n ≤ c) :
    (Instr.slice 26 (.slice A n c) (some (.int .i64 (k : Int))) none none).run Try.prog w = .ok (.slice (cutA A c k) (n - k) (c - k)) w := by
  have hs : (Try.prog.elem 26) = 5 := by simp [Program.elem, Try.underlying26]
  have h3 := run_slice_l (P := Try.prog) w 26 A n c (by rw [hs]; exact Try.underlying26) .i64 (k : Nat) (by omega) (by omega)
  rw [hs] at h3
  obtain ⟨i0, hi0, hz0, hz1, hz2⟩ := info_parts u8_info
  rw [h3]
  simp [sizeOf, typeInfo, hi0, hz1, sliced, Result.andThen, cutA]
end Go.Proofs.Ytpcdmcaojgpfoaa.RP
