/- What the walks over a tape's elements take: the tape as it is laid; noughts appended (none, too); two rows that the call owns side by side; bytes that read as elements whatever is behind them. -/
import Derived.Test.YtpcdmcaojgpfoaaExL
import Derived.Test.YtpcdmcaojgpfoaaAppZ
import Derived.Test.YtpcdmcaojgpfoaaCWithinE
namespace Go.Proofs.Ytpcdmcaojgpfoaa.RP
open Go.RowKit
set_option linter.unusedVariables false
set_option linter.unusedSimpArgs false
set_option maxRecDepth 20000

theorem tape_at {w : World} {A : Option Addr} {n c : Nat} (h : RI w w.heap.size A n c) (hn : n ≤ 281474976710656) : TapeAt (w.alloc (.cells #[.slice A n c, .int .i64 0] 31)) w.heap.size :=
  ⟨A, n, c, 0, Blk.new _ _ _, Nat.zero_le _, hn, h.keep ((Below.refl _ w).alloc (Nat.le_refl _) _)⟩
theorem run_append_none (w : World) (base : Nat) (v : Value) (l : List UInt8) (hown : Own8 w base v l) (ty : TypeId) : (Builtin.append_ #[26, 3] ty #[v, .int .i64 ((0 : Nat) : Int)]).run Try.prog w = .ok v w := by
  obtain ⟨i0, hi0, hz0, hz1, hz2⟩ := info_parts u8_info
  have hw : IntKind.i64.wrap 0 = 0 := by decide
  rcases hown.2 with ⟨rfl, h0⟩ | ⟨g, cap, cur, rfl, _, _, hnc, _⟩
  · simp [Builtin.append_, run_underlying Try.underlying26, run_underlying Try.underlying3, sizeOf, typeInfo, hi0, asInt, asIntOf, hw, h0, storeCells]
  · simp [Builtin.append_, run_underlying Try.underlying26, run_underlying Try.underlying3, sizeOf, typeInfo, hi0, asInt, asIntOf, hw, hnc, storeCells]
theorem wpList_append_zerosN {w : World} {ops : Array Oper} {rest : List Oper} {o : Oper} {a : Act} {Q : Exit → Act → World → Prop} (hgd : o.guard = none) (s x : Operand)
    (ho : o.op = .call { callee := .builtin .append, args := #[s, x], argTypes := #[26, 3] })
    (base : Nat) (v : Value) (l : List UInt8) (hs : a.eval s = v) (hown : Own8 w base v l) (k : Nat) (hx : a.eval x = .int .i64 (k : Int)) (hk : l.length + k ≤ 1000000) (hbase : base ≤ w.heap.size)
    (h : ∀ v' w', App8 w base v (l ++ List.replicate k 0) v' w' → wpList Try.prog ops Q rest (a.put o.dst v') w') : wpList Try.prog ops Q (o :: rest) a w := by
  rcases Nat.eq_zero_or_pos k with h0 | h0
  · subst h0
    refine wpList_plain hgd fun K hK => ?_
    have hrun := run_append_none w base v l hown o.type
    unfold Oper.wp execOp
    simp only [ho, resolve, invoke, builtin, Sem.run_bind, Sem.run_pure, Result.andThen_ok, List.map_toArray, List.map_cons, List.map_nil, hs, hx, hrun]
    exact hK _ _ (h v w ⟨by rw [List.replicate_zero, List.append_nil]; exact hown, World.grownBy.refl w _, .inl rfl⟩)
  · exact wpList_append_zeros8 hgd s x ho base v l hs hown k hx h0 hk hbase h
/-- Two rows of bytes that the call owns, in blocks of their own. -/
structure Two (w wr : World) (va vb : Value) (La Lb : List UInt8) : Prop where
  oa : Own8 wr w.heap.size va La
  ob : Own8 wr w.heap.size vb Lb
  ne : ∀ b, va.ownBlock = some b → vb.ownBlock ≠ some b
  below : Below w.heap.size w wr
theorem own8_keepB {a b : World} {B : Nat} {v : Value} {l : List UInt8} (h : Own8 a B v l) (hb : Below a.heap.size a b) : Own8 b B v l :=
  World.ownsRow.kept (row := none) h ⟨hb.os, hb.tape, hb.output, hb.size, fun k hk _ => hb.block k hk⟩ (by cases hv : v.ownBlock <;> simp)
theorem Two.start {w wr : World} (h : Below w.heap.size w wr) : Two w wr (.slice none 0 0) (.slice none 0 0) [] [] := ⟨Own8_nil _ _, Own8_nil _ _, fun b h => by simp [Value.ownBlock] at h, h⟩
theorem Two.on {w a b : World} {va vb : Value} {La Lb : List UInt8} (h : Two w a va vb La Lb) (hb : Below a.heap.size a b) : Two w b va vb La Lb :=
  ⟨own8_keepB h.oa hb, own8_keepB h.ob hb, h.ne, h.below.trans (hb.mono h.below.size)⟩
theorem Two.swap {w a : World} {va vb : Value} {La Lb : List UInt8} (h : Two w a va vb La Lb) : Two w a vb va Lb La :=
  ⟨h.ob, h.oa, fun b e e' => h.ne b e' e, h.below⟩
theorem Two.appA {w a w' : World} {va vb v' : Value} {La Lb L' : List UInt8} (h : Two w a va vb La Lb) (ha : App8 a w.heap.size va L' v' w') : Two w w' v' vb L' Lb := by
  have hvb : ∀ b, vb.ownBlock = some b → b < a.heap.size := fun b hb => (World.ownsRow.lt h.ob b hb).2
  refine ⟨ha.1, World.ownsRow.kept h.ob ha.2.1 ?_, fun b e e' => ?_, ha.below h.below h.below.size h.oa (Nat.le_refl _)⟩
  · cases hv : vb.ownBlock with
    | none => exact .inl rfl
    | some b => exact .inr fun e => h.ne b e.symm hv
  · rcases ha.2.2 with h2 | h2
    · exact h.ne b (h2 ▸ e) e'
    · rw [h2] at e
      injection e with e
      have := hvb b e'
      omega
theorem Two.appB {w a w' : World} {va vb v' : Value} {La Lb L' : List UInt8} (h : Two w a va vb La Lb) (hb : App8 a w.heap.size vb L' v' w') : Two w w' va v' La L' := (h.swap.appA hb).swap
/-- The bytes L read as the elements P, whatever is behind them. -/
def RdsAs (L : List UInt8) (P : List (Int × List UInt8)) : Prop := ∀ r, rdA true (L ++ r) = (rdA true r).map (P ++ ·)
theorem RdsAs.nil : RdsAs [] [] := fun r => by simp
theorem RdsAs.zeros {L : List UInt8} {P : List (Int × List UInt8)} (h : RdsAs L P) (k : Nat) : RdsAs (L ++ List.replicate k 0) P := fun r => by
  rw [List.append_assoc, h, rdA_zeros]
theorem elemsB_one {e : El} (hb : badE true e = false) : elemsErr 48862 [e] = 0 ∧ elemsB 48862 [e] = elB true e ++ List.replicate (padN (elB true e).length 4) 0 := by
  have h0 := err_ok (prof := 48862) (E := [e]) (.inl rfl) (by simp) (fun x hx => by rw [List.mem_singleton.1 hx]; exact hb)
  refine ⟨h0, ?_⟩
  unfold elemsB
  rw [if_pos h0]
  show padL (elBs true [e]) 4 = _
  unfold padL
  rw [show elBs true [e] = elB true e by simp [elBs]]
theorem RdsAs.el {L : List UInt8} {P : List (Int × List UInt8)} (h : RdsAs L P) {e : El} (hb : badE true e = false) : RdsAs (L ++ elemsB 48862 [e]) (P ++ [e.dat]) := fun r => by
  rw [(elemsB_one hb).2, List.append_assoc, h, List.append_assoc, rdA_elB true e hb, rdA_zeros, Option.map_map]
  congr 1
  funext x
  simp
theorem RdsAs.out {L : List UInt8} {P : List (Int × List UInt8)} (h : RdsAs L P) (h8 : P.length ≤ 8) : errR 48862 L = 0 ∧ outR 48862 L = P := by
  have h1 := h []
  rw [List.append_nil, rdA_nil] at h1
  exact errR_ok (prof := 48862) (.inl rfl) (show rdA true L = some P by simpa using h1) (by omega)
theorem bad_in {two : Bool} {e : El} (h : ElIn two e) : badE (!two) e = false := by
  cases two with
  | true =>
    have := h.1; have := h.2.1; have := h.2.2.1
    simp only [badE, Bool.not_true, Bool.false_and, Bool.false_or, Bool.or_eq_false_iff, decide_eq_false_iff_not]
    omega
  | false =>
    have := h.1; have := h.2.1; have := h.2.2.1; have := h.2.2.2 rfl
    simp only [badE, Bool.not_false, Bool.true_and, Bool.or_eq_false_iff, decide_eq_false_iff_not]
    omega
theorem elB_len10 {e : El} (h : ElIn false e) : (elemsB 48862 [e]).length ≤ 80 ∧ e.d.length + 1 ≤ (elemsB 48862 [e]).length := by
  have hb := bad_in h
  have h2 := h.2.2.2 rfl
  have h3 := padN_lt (elB true e).length 4
  rw [(elemsB_one hb).2, List.length_append, List.length_replicate]
  have h4 : (elB true e).length = e.d.length + 1 := by simp [elB]
  omega
end Go.Proofs.Ytpcdmcaojgpfoaa.RP
