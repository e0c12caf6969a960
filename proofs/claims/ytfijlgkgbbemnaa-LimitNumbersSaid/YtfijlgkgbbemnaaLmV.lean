/- What Tmmbr's walk wants: cuts of rows, rows written over, a store among a region's operations. -/
import Derived.Test.YtfijlgkgbbemnaaNg
import Derived.Test.YtfijlgkgbbemnaaRegDs
namespace Go.Proofs.Ytfijlgkgbbemnaa
open Go.RowKit
set_option linter.unusedVariables false
set_option linter.unusedSimpArgs false
set_option maxRecDepth 20000

/-! ### Cuts -/
theorem cellsT_take (L : List Tup) (j : Nat) : (cellsT L).take (j * 3) = cellsT (L.take j) := by
  have e2 : cellsT L = cellsT (L.take j) ++ cellsT (L.drop j) := by rw [← cellsT_app, List.take_append_drop]
  rcases Nat.le_total j L.length with h | h
  · have hl : (cellsT (L.take j)).length = j * 3 := by rw [cellsT_len, List.length_take]; congr 1; omega
    rw [e2, ← hl, List.take_left]
  · rw [List.take_of_length_le h, List.take_of_length_le (by rw [cellsT_len]; exact Nat.mul_le_mul_right _ h)]
theorem cellsT_drop (L : List Tup) (j : Nat) : (cellsT L).drop (j * 3) = cellsT (L.drop j) := by
  have e2 : cellsT L = cellsT (L.take j) ++ cellsT (L.drop j) := by rw [← cellsT_app, List.take_append_drop]
  rcases Nat.le_total j L.length with h | h
  · have hl : (cellsT (L.take j)).length = j * 3 := by rw [cellsT_len, List.length_take]; congr 1; omega
    rw [e2, ← hl, List.drop_left]
  · rw [List.drop_eq_nil_of_le h, List.drop_eq_nil_of_le (by rw [cellsT_len]; exact Nat.mul_le_mul_right _ h)]
    rfl
theorem RX.takeN {w : World} {B n c s : Nat} {A : Option Addr} {vs : List Value} (h : RX w B A n c s vs) {k : Nat} (hk : k ≤ n) : RX w B A k c s (vs.take (k * s)) := by
  refine ⟨by rw [List.length_take, h.1]; have := Nat.mul_le_mul_right s hk; omega, Nat.le_trans hk h.2.1, fun hn => ?_⟩
  obtain ⟨b, off, e, hb, hc⟩ := h.2.2 (by omega)
  refine ⟨b, off, e, hb, fun j v hj => hc j v ?_⟩
  rw [List.getElem?_take] at hj
  split at hj
  · exact hj
  · cases hj
/-- s[:k]. -/
theorem cut_to (t e : TypeId) (ht : Try.prog.underlying t = some (.slice e)) (i0 : TypeInfo) (hi : Try.prog.info? e = some i0) (A : Option Addr) (n c k : Nat) (hk : k ≤ c) (w : World) :
    (Instr.slice t (.slice A n c) none (some (.int .i64 (k : Int))) none).run Try.prog w = .ok (.slice A k c) w := by
  have e0 : (if c = 0 then A else A.map (·.add 0)) = A := by
    split
    · rfl
    · cases A with
      | none => rfl
      | some a => simp [Addr.add]
  have hs : Try.prog.elem t = e := by simp [Program.elem, ht]
  have h3 := run_slice_h (P := Try.prog) w t A n c (by rw [hs]; exact ht) .i64 (k : Nat) (by omega) (by omega)
  rw [hs] at h3
  rw [h3]
  simp [sizeOf, typeInfo, hi, sliced, Result.andThen, e0]
/-- s[j:], of whatever is left. -/
theorem cut_rest (t e : TypeId) (ht : Try.prog.underlying t = some (.slice e)) (i0 : TypeInfo) (hi : Try.prog.info? e = some i0) (s : Nat) (hz1 : i0.size = s) {w : World} {B : Nat} {A : Option Addr} {n c j : Nat} {vs : List Value} (h : RX w B A n c s vs) (hj : j ≤ n) :
    ∃ A' c', (∀ W, (Instr.slice t (.slice A n c) (some (.int .i64 (j : Int))) none none).run Try.prog W = .ok (.slice A' (n - j) c') W) ∧ RX w B A' (n - j) c' s (vs.drop (j * s)) := by
  have hs : Try.prog.elem t = e := by simp [Program.elem, ht]
  have hl := h.1
  have hnc := h.2.1
  have h3 := fun W => run_slice_l (P := Try.prog) W t A n c (by rw [hs]; exact ht) .i64 (j : Int) (by omega) (by omega)
  refine ⟨if c = j then A else A.map (·.add (j * s)), c - j, fun W => ?_, ?_⟩
  · have := h3 W
    rw [hs] at this
    rw [this]
    simp [sizeOf, typeInfo, hi, hz1, sliced, Result.andThen]
  · refine ⟨by rw [List.length_drop, hl, Nat.sub_mul], by omega, fun hn => ?_⟩
    obtain ⟨b, off, rfl, hb, hc⟩ := h.2.2 (by omega)
    rw [if_neg (by omega)]
    refine ⟨b, off + j * s, by simp [Addr.add], hb, fun i v hi' => ?_⟩
    rw [List.getElem?_drop] at hi'
    have := hc (j * s + i) v hi'
    rwa [show off + (j * s + i) = off + j * s + i by omega] at this
theorem RT.takeN {w : World} {B n c : Nat} {A : Option Addr} {l : List Tup} (h : RT w B A n c l) {k : Nat} (hk : k ≤ n) : RT w B A k c (l.take k) :=
  ⟨by rw [List.length_take, h.1]; omega, fun t ht => h.2.1 t (List.mem_of_mem_take ht), by rw [← cellsT_take]; exact h.2.2.takeN hk⟩
theorem RT.restN {w : World} {B n c : Nat} {A : Option Addr} {l : List Tup} (h : RT w B A n c l) {j : Nat} (hj : j ≤ n) : ∃ A' c', (∀ W, (Instr.slice 46 (.slice A n c) (some (.int .i64 (j : Int))) none none).run Try.prog W = .ok (.slice A' (n - j) c') W) ∧ RT w B A' (n - j) c' (l.drop j) := by
  obtain ⟨i0, hi0, hz0, hz1, hz2⟩ := info_parts tup_info
  obtain ⟨A', c', h1, h2⟩ := cut_rest 46 31 Try.underlying46 i0 hi0 3 hz1 h.2.2 hj
  exact ⟨A', c', h1, by rw [List.length_drop, h.1], fun t ht => h.2.1 t (List.mem_of_mem_drop ht), by rw [← cellsT_drop]; exact h2⟩
theorem RX.takeV {w : World} {B n c : Nat} {A : Option Addr} {l : List Int} (h : RX w B A n c 1 (l.map lv)) {k : Nat} (hk : k ≤ n) : RX w B A k c 1 ((l.take k).map lv) := by
  have := h.takeN hk
  rwa [Nat.mul_one, ← List.map_take] at this
theorem RX.restV {w : World} {B n c : Nat} {A : Option Addr} {l : List Int} (h : RX w B A n c 1 (l.map lv)) {j : Nat} (hj : j ≤ n) : ∃ A' c', (∀ W, (Instr.slice 54 (.slice A n c) (some (.int .i64 (j : Int))) none none).run Try.prog W = .ok (.slice A' (n - j) c') W) ∧ RX w B A' (n - j) c' 1 ((l.drop j).map lv) := by
  obtain ⟨i0, hi0, hz0, hz1, hz2⟩ := info_parts i64v_info
  obtain ⟨A', c', h1, h2⟩ := cut_rest 54 2 Try.underlying54 i0 hi0 1 hz1 h hj
  refine ⟨A', c', h1, ?_⟩
  rwa [Nat.mul_one, ← List.map_drop] at h2
theorem cut_toT (A : Option Addr) (n c k : Nat) (hk : k ≤ c) (w : World) : (Instr.slice 46 (.slice A n c) none (some (.int .i64 (k : Int))) none).run Try.prog w = .ok (.slice A k c) w := by
  obtain ⟨i0, hi0, _⟩ := info_parts tup_info
  exact cut_to 46 31 Try.underlying46 i0 hi0 A n c k hk w
theorem cut_toV (A : Option Addr) (n c k : Nat) (hk : k ≤ c) (w : World) : (Instr.slice 54 (.slice A n c) none (some (.int .i64 (k : Int))) none).run Try.prog w = .ok (.slice A k c) w := by
  obtain ⟨i0, hi0, _⟩ := info_parts i64v_info
  exact cut_to 54 2 Try.underlying54 i0 hi0 A n c k hk w
/-! ### Rows written over -/
theorem cellsT_set3 : ∀ (L : List Tup) (q o r : Nat) (v : Int) (h : q < L.length), (((cellsT L).set (q * 3) (.int .u32 (o : Int))).set (q * 3 + 1) (.int .u64 (r : Int))).set (q * 3 + 2) (.int .i64 v) = cellsT (L.set q ⟨o, r, v⟩)
  | x :: l, 0, o, r, v, _ => rfl
  | x :: l, q + 1, o, r, v, h => by
    have ih := cellsT_set3 l q o r v (by simpa using h)
    have e1 : cellsT (x :: l) = .int .u32 (x.owner : Int) :: .int .u64 (x.rate : Int) :: .int .i64 x.over :: cellsT l := rfl
    have e2 : (q + 1) * 3 = q * 3 + 3 := by omega
    rw [e1, e2]
    show .int .u32 (x.owner : Int) :: .int .u64 (x.rate : Int) :: .int .i64 x.over :: (((cellsT l).set (q * 3) (.int .u32 (o : Int))).set (q * 3 + 1) (.int .u64 (r : Int))).set (q * 3 + 2) (.int .i64 v) = _
    rw [ih]
    rfl
theorem OwnTp.setAll {w : World} {base g off n c q o r : Nat} {v : Int} {L : List Tup} (h : OwnTp w base (.slice (some ⟨g, off, none⟩) n c) L) (hq : q < L.length) : OwnTp (((w.setCell ⟨g, off + q * 3, none⟩ (.int .u32 (o : Int))).setCell ⟨g, off + q * 3 + 1, none⟩ (.int .u64 (r : Int))).setCell ⟨g, off + q * 3 + 2, none⟩ (.int .i64 v)) base (.slice (some ⟨g, off, none⟩) n c) (L.set q ⟨o, r, v⟩) := by
  obtain ⟨hl, ⟨e, _⟩ | ⟨g', cap, cur, e, hb, hg, hnc, hcm, hcs, htk⟩⟩ := h
  · cases e
  · injection e with e1 e2 e3
    injection e1 with e1
    injection e1 with e1 e4
    subst e1 e2 e3 e4
    refine ⟨by rw [cellsT_len], .inr ⟨g, c, ((cur.setIfInBounds (q * 3) (.int .u32 (o : Int))).setIfInBounds (q * 3 + 1) (.int .u64 (r : Int))).setIfInBounds (q * 3 + 2) (.int .i64 v), by rw [List.length_set], hb, ?_, by rw [List.length_set]; exact hnc, hcm, by simpa using hcs, ?_⟩⟩
    · rw [Nat.zero_add]
      simp [World.setCell, Array.getElem?_modify, hg]
    · rw [Array.toList_setIfInBounds, Array.toList_setIfInBounds, Array.toList_setIfInBounds, List.length_set, ← cellsT_set3 L q o r v hq, ← htk, List.take_set, List.take_set, List.take_set]
theorem OwnTp.froz {w : World} {base g off n c : Nat} {L : List Tup} (h : OwnTp w base (.slice (some ⟨g, off, none⟩) n c) L) : base ≤ g ∧ off = 0 ∧ ∀ i, w.frozen? ⟨g, i, none⟩ = false := by
  obtain ⟨hl, ⟨e, _⟩ | ⟨g', cap, cur, e, hb, hg, _⟩⟩ := h
  · cases e
  · injection e with e1 e2 e3
    injection e1 with e1
    injection e1 with e1 e4
    subst e1 e4
    have hB : Blk w g 31 cur := hg
    exact ⟨hb, rfl, fun i => hB.frozen i⟩
theorem OwnV.setAt {w : World} {base g off n c q : Nat} {u : Int} {L : List Int} (h : OwnV w base (.slice (some ⟨g, off, none⟩) n c) L) : OwnV (w.setCell ⟨g, off + q, none⟩ (.int .i64 u)) base (.slice (some ⟨g, off, none⟩) n c) (L.set q u) ∧ ∀ i, w.frozen? ⟨g, i, none⟩ = false := by
  obtain ⟨hl, ⟨e, _⟩ | ⟨g', cap, cur, e, hb, hg, hnc, hcm, hcs, htk⟩⟩ := h
  · cases e
  · injection e with e1 e2 e3
    injection e1 with e1
    injection e1 with e1 e4
    subst e1 e2 e3 e4
    have hB : Blk w g 2 cur := hg
    refine ⟨⟨by simp, .inr ⟨g, c, cur.setIfInBounds q (.int .i64 u), by rw [List.length_set], hb, ?_, by rw [List.length_set]; exact hnc, hcm, by simpa using hcs, ?_⟩⟩, fun i => hB.frozen i⟩
    · rw [Nat.zero_add]
      simp [World.setCell, Array.getElem?_modify, hg]
    · rw [Array.toList_setIfInBounds, List.length_set, List.map_set, ← htk, List.take_set]
      rfl
/-! ### Claims of the regions that write -/
def emX (w0 : World) (ty : TypeId) : ClF (tkF w0) := .pred (fun v W => ∃ g, v = .slice (some ⟨g, 0, none⟩) 0 0 ∧ w0.heap.size ≤ g ∧ Blk W g ty #[]) (fun v a b _ hf _ h => by
  obtain ⟨g, e, h1, h2⟩ := h
  exact ⟨g, e, h1, (hf.block g h2.lt).trans h2⟩)
theorem emX_of {w0 : World} {ty : TypeId} {c : ClF (tkF w0)} {v : Value} {W : World} (h : c.holds v W) (e : c = emX w0 ty) : ∃ g, v = .slice (some ⟨g, 0, none⟩) 0 0 ∧ w0.heap.size ≤ g ∧ Blk W g ty #[] := by subst e; exact h
theorem ownE {W : World} {base g : Nat} {ty : TypeId} (s : Nat) (hb : base ≤ g) (h : Blk W g ty #[]) : W.ownsRow base ty s (.slice (some ⟨g, 0, none⟩) 0 0) 0 [] := ⟨by simp, .inr ⟨g, 0, #[], rfl, hb, h, Nat.le_refl _, by simp [maxLen], by simp, by simp⟩⟩
/-- While a row is written over. -/
def ovF (T : Nat → Prop) (w0 : World) : Frame where
  I := fun W => OnlyS T w0 W
  Fr := fun a b => Below a.heap.size a b
  refl := fun w _ => Below.refl _ w
  trans := fun a b c h k => h.trans (k.mono h.size)
  drew := fun W h => ⟨h.trans (OnlyS.of (S := T) (belowDrewN W 1)) (fun i hi _ => hi), belowDrewN W 1⟩
def ovR (T : Nat → Prop) (w0 : World) (base : Nat) (v : Value) (L : List Tup) : ClF (ovF T w0) := .pred (fun _ W => OwnTp W base v L) (fun _ a b _ hf _ h => h.on hf)
theorem ovR_of {T : Nat → Prop} {w0 : World} {base : Nat} {v0 : Value} {L : List Tup} {c : ClF (ovF T w0)} {v : Value} {W : World} (h : c.holds v W) (e : c = ovR T w0 base v0 L) : OwnTp W base v0 L := by subst e; exact h
/-! ### putE, its ways -/
theorem putE_here {E : Ents} {e : Ent} (h : hereE E e.t.owner = true) : putE E e = E.set (posE E e.t.owner) e := if_pos h
theorem putE_room {E : Ents} {e : Ent} (h : hereE E e.t.owner = false) (hl : E.length < 6) : putE E e = E.take (posE E e.t.owner) ++ e :: E.drop (posE E e.t.owner) := by
  unfold putE
  rw [h, if_neg (by simp), if_pos hl]
theorem putE_full {E : Ents} {e : Ent} (h : hereE E e.t.owner = false) (hl : ¬ E.length < 6) : putE E e = E := by
  unfold putE
  rw [h, if_neg (by simp), if_neg hl]
theorem T_set (E : Ents) (q : Nat) (e : Ent) : Ents.T (E.set q e) = E.T.set q e.t := List.map_set ..
theorem U_set (E : Ents) (q : Nat) (e : Ent) : Ents.U (E.set q e) = E.U.set q e.u := List.map_set ..
theorem T_ins (E : Ents) (q : Nat) (e : Ent) : Ents.T (E.take q ++ e :: E.drop q) = (E.T.take q ++ [e.t]) ++ E.T.drop q := by simp [Ents.T]
theorem U_ins (E : Ents) (q : Nat) (e : Ent) : Ents.U (E.take q ++ e :: E.drop q) = (E.U.take q ++ [e.u]) ++ E.U.drop q := by simp [Ents.U]
end Go.Proofs.Ytfijlgkgbbemnaa
