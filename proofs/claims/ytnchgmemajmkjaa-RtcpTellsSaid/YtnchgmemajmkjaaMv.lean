/- What the walk of limelightlaw6.RtcpTells takes: bytes ahead of a row that came in; reports that a call answers. No program's function. RtcpTells' walk. -/
import Derived.Test.YtnchgmemajmkjaaMq
import Derived.Test.YtnchgmemajmkjaaMr
import Derived.Test.YtnchgmemajmkjaaMo
import Derived.Test.YtnchgmemajmkjaaRegP
import Derived.ArgAppend
import Derived.Laws.Closers25b
namespace Go.Proofs.Ytnchgmemajmkjaa.RP
open Go.RowKit
set_option linter.unusedVariables false
set_option linter.unusedSimpArgs false
set_option maxRecDepth 20000

/-- A byte of a row of one's own is written. -/
theorem own8_setAt6 {w : World} {base g c i n : Nat} {l : List UInt8} (h : Own8 w base (.slice (some ⟨g, 0, none⟩) n c) l) (hi : i < l.length) (x : UInt8) : Own8 (w.setCell ⟨g, i, none⟩ (.int .u8 (x.toNat : Int))) base (.slice (some ⟨g, 0, none⟩) n c) (l.set i x) := by
  rcases h.2 with ⟨hv, _⟩ | ⟨g', cap, cur, hv, hb, hg, hnc, hm, hs, ht⟩
  · cases hv
  · injection hv with h1 h2 h3
    injection h1 with h1
    injection h1 with h1 _ _
    subst h1 h2 h3
    refine ⟨by simp, .inr ⟨g, c, _, by simp, hb, Blk.set_ (w := w) (g := g) hg i (.int .u8 (x.toNat : Int)), by simpa using hnc, hm, by simpa using hs, ?_⟩⟩
    rw [Nat.mul_one] at ht ⊢
    rw [List.length_set, Array.toList_setIfInBounds, List.take_set, ht, List.map_set]
    rfl
theorem own8_some6 {w : World} {base : Nat} {v : Value} {l : List UInt8} (h : Own8 w base v l) (hl : 0 < l.length) : ∃ g c, v = .slice (some ⟨g, 0, none⟩) l.length c ∧ base ≤ g ∧ g < w.heap.size ∧ (∀ i, w.frozen? ⟨g, i, none⟩ = false) ∧ ∀ i, i < l.length → w.cell? ⟨g, i, none⟩ = some (.int .u8 ((l.getD i 0).toNat : Int)) := by
  obtain ⟨A, c, hv, hr⟩ := h.r8
  rcases h.2 with ⟨hv', hn⟩ | ⟨g, cap, cur, hv', hb, hg, hnc, hm, hs, ht⟩
  · omega
  · rw [hv'] at hv
    injection hv with h1 h2 h3
    refine ⟨g, cap, hv', hb, (Array.getElem?_eq_some_iff.1 hg).1, fun i => by simp [World.frozen?, hg], fun i hi => ?_⟩
    obtain ⟨b, off, e, _, hc⟩ := hr.2.2 hl
    rw [← h1] at e
    injection e with e
    injection e with e1 e2 _
    subst e1 e2
    have := hc i hi
    rwa [Nat.zero_add] at this
/-- append([]byte{..}, b...): the first row has no room, so that nothing that was there turns. -/
theorem run_ahead6 (w : World) (g : Nat) (l0 : List UInt8) (h4 : l0.length = 4) (hB : Blk w g 5 (l0.map bv).toArray) (A : Option Addr) (n c : Nat) (l : List UInt8) (hr : R8 w w.heap.size A n c l) (hn : n ≤ 140737488351232) (ty : TypeId) :
    ∃ v' w' A' n' c', (Builtin.append_ #[31, 31] ty #[.slice (some ⟨g, 0, none⟩) 4 4, .slice A n c]).run Try.prog w = .ok v' w' ∧ Below w.heap.size w w' ∧ v' = .slice A' n' c' ∧ R8 w' w'.heap.size A' n' c' (l0 ++ l) := by
  obtain ⟨i0, hi0, hz0, hz1, hz2⟩ := info_parts u8_info
  have hl := hr.1
  have hg := hB.lt
  rcases Nat.eq_zero_or_pos n with h0 | h0
  · subst h0
    have hl0 : l = [] := List.eq_nil_of_length_eq_zero hl
    subst hl0
    have hr0 := hB.r8 (n := 4) (c := 4) h4 (Nat.le_refl _)
    refine ⟨.slice (some ⟨g, 0, none⟩) 4 4, w, some ⟨g, 0, none⟩, 4, 4, ?_, Below.refl _ _, rfl, by rw [List.append_nil]; exact hr0⟩
    cases A with
    | none => simp [Builtin.append_, run_underlying Try.underlying31, run_underlying Try.underlying5, sizeOf, typeInfo, hi0, Builtin.lenOf, Builtin.firstCells, storeCells]
    | some ad =>
      have hf := run_firstCells_some (P := Try.prog) w i0.size 0 ad 0 c [] (by simp) (by simp)
      simp [Builtin.append_, run_underlying Try.underlying31, run_underlying Try.underlying5, sizeOf, typeInfo, hi0, Builtin.lenOf, hf, storeCells]
  · obtain ⟨ad, rfl, hsrc⟩ := hr.src (by simpa [hl] using h0)
    have holds : ∀ j u, (l0.map bv)[j]? = some u → w.cell? ((⟨g, 0, none⟩ : Addr).add j) = some u := by
      intro j u hj
      have e : (⟨g, 0, none⟩ : Addr).add j = ⟨g, j, none⟩ := by unfold Addr.add; split <;> simp_all
      rw [e, hB.cell j]
      simpa using hj
    obtain ⟨v', w', hrun, hown, hgr⟩ := run_append_arg_grows (P := Try.prog) w 31 ty 5 i0 _ 1 1 Try.underlying31 hi0 hz0 hz1 hz2 rfl (by omega) ⟨g, 0, none⟩ 4 4 (l0.map bv) (by simp [h4]) holds ad n c (l.map bv) (by simp [hl]) hsrc (by omega) (by simp only [maxLen]; omega) (by omega)
    have ho : Own8 w' w.heap.size v' (l0 ++ l) := by
      unfold Own8
      rw [List.length_append, h4, hl, List.map_append]
      exact hown
    obtain ⟨A', c', hv, hR⟩ := ho.r8
    exact ⟨v', w', A', _, c', hrun, ⟨hgr.os, hgr.tape, hgr.output, hgr.size, fun k hk => hgr.block k hk (by simp)⟩, hv, hR⟩
theorem xor86 (a b : Int) : ∃ y : UInt8, bits BinOp.xor .u8 a b = (y.toNat : Int) := by
  have h0 := bits_lo_u8 BinOp.xor a b
  have h1 := bits_hi_u8 BinOp.xor a b
  exact ⟨UInt8.ofNat (bits BinOp.xor .u8 a b).toNat, by rw [UInt8.toNat_ofNat']; omega⟩
theorem or86 (a b : Int) : ∃ y : UInt8, bits BinOp.or .u8 a b = (y.toNat : Int) := by
  have h0 := bits_lo_u8 BinOp.or a b
  have h1 := bits_hi_u8 BinOp.or a b
  exact ⟨UInt8.ofNat (bits BinOp.or .u8 a b).toNat, by rw [UInt8.toNat_ofNat']; omega⟩
theorem i64_bits6 (op : BinOp) (a b : Int) : I64 (bits op .i64 a b) := ⟨bits_lo_i64 op a b, bits_hi_i64 op a b⟩
theorem run_cut_any {P : Program} (t e : TypeId) (ht : P.underlying t = some (.slice e)) (i0 : TypeInfo) (hi : P.info? e = some i0) (A : Option Addr) (n c k : Nat) (hk : k ≤ c) (w : World) :
    (Instr.slice t (.slice A n c) none (some (.int .i64 (k : Int))) none).run P w = .ok (.slice A k c) w := by
  have e0 : (if c = 0 then A else A.map (·.add 0)) = A := by
    split
    · rfl
    · cases A with
      | none => rfl
      | some a => simp [Addr.add]
  have hs : P.elem t = e := by simp [Program.elem, ht]
  have h3 := run_slice_h (P := P) w t A n c (by rw [hs]; exact ht) .i64 (k : Nat) (by omega) (by omega)
  rw [hs] at h3
  rw [h3]
  simp [sizeOf, typeInfo, hi, sliced, Result.andThen, e0]
/-! ### What a region's calls answer -/
def rvC : Cl := .pred (fun v W => ∃ x : Rv, v = x.val ∧ IsR W W.heap.size x) (fun v w w' hb ⟨x, h1, h2⟩ => ⟨x, h1, h2.on hb⟩)
theorem rvC_of {c : Cl} {v : Value} {W : World} (h : c.holds v W) (e : c = rvC) : ∃ x : Rv, v = x.val ∧ IsR W W.heap.size x := by subst e; exact h
def RepRet (w : World) (e : Ending) (w' : World) : Prop := ∃ v, e = .returned v ∧ Below w.heap.size w w' ∧ rvC.holds v w'
theorem rvC_ret {c : Cl} {w w' : World} {e : Ending} (hc : c = rvC) (h : RepRet w e w') : ∃ v, e = .returned v ∧ Below w.heap.size w w' ∧ c.holds v w' := by subst hc; exact h
theorem odd_c (x : Rv) (what n : Int) (w : World) (hx : IsR w w.heap.size x) (hw : I64 what) (hn : I64 n) (hs : x.r.tups.length ≤ 900000 ∧ x.r.abouts.length ≤ 900000 ∧ x.r.nums.length ≤ 900000 ∧ x.r.body.length ≤ 900000) :
    Calls Try.prog 12 #[x.val, .int .i64 what, .int .i64 n] w (RepRet w) :=
  (odd_any x what n w hx hw hn hs.1 hs.2.1 hs.2.2.1 hs.2.2.2).mono fun e w' ⟨r, y, h1, h2, h3, h4⟩ => ⟨_, h1, h4, y, rfl, h3⟩
def rowC (n : Nat) : Cl := .pred (fun v W => ∃ (A : Option Addr) (c : Nat) (L : List Rv), v = .slice A n c ∧ RR W W.heap.size A n c L) (fun v w w' hb ⟨A, c, L, h1, h2⟩ => ⟨A, c, L, h1, h2.on hb⟩)
theorem rowC_of {n : Nat} {c : Cl} {v : Value} {W : World} (h : c.holds v W) (e : c = rowC n) : ∃ (A : Option Addr) (c : Nat) (L : List Rv), v = .slice A n c ∧ RR W W.heap.size A n c L := by subst e; exact h
theorem rowC1_of {c : Cl} {v : Value} {W : World} (h : c.holds v W) (e : c = rowC 1) : ∃ (A : Option Addr) (c : Nat) (L : List Rv), v = .slice A 1 c ∧ RR W W.heap.size A 1 c L := rowC_of h e
theorem rowC2_of {c : Cl} {v : Value} {W : World} (h : c.holds v W) (e : c = rowC 2) : ∃ (A : Option Addr) (c : Nat) (L : List Rv), v = .slice A 2 c ∧ RR W W.heap.size A 2 c L := rowC_of h e
theorem rowC_mk {n : Nat} {c : Cl} {v : Value} {W : World} (e : c = rowC n) (h : ∃ (A : Option Addr) (c : Nat) (L : List Rv), v = .slice A n c ∧ RR W W.heap.size A n c L) : c.holds v W := by subst e; exact h
def fourC (l : List UInt8) : Cl := .pred (fun v W => ∃ g, v = .slice (some ⟨g, 0, none⟩) 4 4 ∧ Blk W g 5 (l.map bv).toArray) (fun v w w' hb ⟨g, h1, h2⟩ => ⟨g, h1, h2.below hb h2.lt⟩)
theorem fourC_of {l : List UInt8} {c : Cl} {v : Value} {W : World} (h : c.holds v W) (e : c = fourC l) : ∃ g, v = .slice (some ⟨g, 0, none⟩) 4 4 ∧ Blk W g 5 (l.map bv).toArray := by subst e; exact h
theorem fourC_mk {l : List UInt8} {c : Cl} {v : Value} {W : World} (e : c = fourC l) (h : ∃ g, v = .slice (some ⟨g, 0, none⟩) 4 4 ∧ Blk W g 5 (l.map bv).toArray) : c.holds v W := by subst e; exact h
def octC (l : List UInt8) : Cl := .bytes l
theorem octC_of {l : List UInt8} {c : Cl} {v : Value} {W : World} (h : c.holds v W) (e : c = octC l) : ∃ A n k, v = .slice A n k ∧ R8 W W.heap.size A n k l := by subst e; exact h
theorem octC_mk {l : List UInt8} {c : Cl} {v : Value} {W : World} (e : c = octC l) (h : ∃ A n k, v = .slice A n k ∧ R8 W W.heap.size A n k l) : c.holds v W := by subst e; exact h
/-! ### A report cut short; a row of reports beside a block that is written -/
theorem rx_take6 {w : World} {B n c size k : Nat} {A : Option Addr} {vs : List Value} (h : RX w B A n c size vs) (hk : k ≤ n) : RX w B A k c size (vs.take (k * size)) :=
  ⟨by rw [List.length_take, h.1]; exact Nat.min_eq_left (Nat.mul_le_mul_right _ hk), Nat.le_trans hk h.2.1, fun hn => by
    obtain ⟨b, off, e, hb, hc⟩ := h.2.2 (by omega)
    refine ⟨b, off, e, hb, fun j v hj => hc j v ?_⟩
    rw [List.getElem?_take] at hj
    split at hj
    · exact hj
    · cases hj⟩
theorem flat_take {α β : Type} {f : α → List β} {m : Nat} (h : ∀ x, (f x).length = m) : ∀ (l : List α) (k : Nat), (l.flatMap f).take (k * m) = (l.take k).flatMap f
  | [], k => by simp
  | x :: r, 0 => by simp
  | x :: r, k + 1 => by
    have ih := flat_take h r k
    rw [List.flatMap_cons, List.take_succ_cons, List.flatMap_cons, List.take_append, h, show (k + 1) * m - m = k * m by rw [Nat.add_mul]; omega, ih, List.take_of_length_le (by rw [h, Nat.add_mul]; omega)]
theorem rt_take {w : World} {B n c k : Nat} {A : Option Addr} {l : List Tup} (h : RT w B A n c l) (hk : k ≤ n) : RT w B A k c (l.take k) := by
  have h2 := rx_take6 h.2.2 hk
  have e : (cellsT l).take (k * 3) = cellsT (l.take k) := flat_take (f := Tup.cells) (m := 3) (fun _ => rfl) l k
  rw [e] at h2
  exact ⟨by rw [List.length_take, h.1]; omega, fun t ht => h.2.1 t (List.mem_of_mem_take ht), h2⟩
theorem rn_take {w : World} {B n c k : Nat} {A : Option Addr} {l : List Int} (h : RN w B A n c l) (hk : k ≤ n) : RN w B A k c (l.take k) := by
  have h2 := rx_take6 h.2.2 hk
  rw [Nat.mul_one, ← List.map_take] at h2
  exact ⟨by rw [List.length_take, h.1]; omega, fun t ht => h.2.1 t (List.mem_of_mem_take ht), h2⟩
theorem r32_take {w : World} {B n c k : Nat} {A : Option Addr} {l : List Nat} (h : R32 w B A n c l) (hk : k ≤ n) : R32 w B A k c (l.take k) :=
  ⟨by rw [List.length_take, h.1]; omega, Nat.le_trans hk h.2.1, fun x hx => h.2.2.1 x (List.mem_of_mem_take hx), fun hn => by
    obtain ⟨b, off, e, hb, hc⟩ := h.2.2.2 (by omega)
    refine ⟨b, off, e, hb, fun i hi => ?_⟩
    rw [hc i (by omega)]
    simp [List.getD_eq_getElem?_getD, List.getElem?_take, hi]⟩
theorem rep_cut {w : World} {B : Nat} {q : Rv} {k1 k2 k3 : Nat} (h : IsR w B q) (h1 : k1 ≤ q.r.tups.length) (h2 : k2 ≤ q.r.abouts.length) (h3 : k3 ≤ q.r.nums.length) :
    ∃ y : Rv, IsR w B y ∧ y.cells = [.int .i64 q.r.kind, .int .u32 (q.r.src : Int), .int .u32 (q.r.about : Int), .slice q.At k1 q.ct, .slice q.Aa k2 q.ca, .slice q.An k3 q.cn, .int .u64 (q.r.rate : Int), .int .i64 q.r.ty, .int .i64 q.r.count, .slice q.Ab q.r.body.length q.cb] := by
  have e1 : (q.r.tups.take k1).length = k1 := by rw [List.length_take]; omega
  have e2 : (q.r.abouts.take k2).length = k2 := by rw [List.length_take]; omega
  have e3 : (q.r.nums.take k3).length = k3 := by rw [List.length_take]; omega
  refine ⟨⟨{ q.r with tups := q.r.tups.take k1, abouts := q.r.abouts.take k2, nums := q.r.nums.take k3 }, q.At, q.ct, q.Aa, q.ca, q.An, q.cn, q.Ab, q.cb⟩, ⟨?_, ?_, ?_, h.body, ?_⟩, ?_⟩
  · simp only [e1]
    exact rt_take h.tups h1
  · simp only [e2]
    exact r32_take h.abouts h2
  · simp only [e3]
    exact rn_take h.nums h3
  · have hk := h.kinds
    exact ⟨hk.kind, hk.src, hk.about, hk.rate, hk.ty, hk.count, by have := hk.tups; simp only [e1]; omega, by have := hk.abouts; simp only [e2]; omega, by have := hk.nums; simp only [e3]; omega, hk.body⟩
  · simp only [Rv.cells, e1, e2, e3]
theorem RR.but6 {w w' : World} {A : Option Addr} {n c R : Nat} {L : List Rv} (h : RR w w.heap.size A n c L) (hb : But R w w') (hA : ∀ ad, A = some ad → ad.block ≠ R) (hL : ∀ x ∈ L, x.Off R) : RR w' w'.heap.size A n c L :=
  ⟨h.1, fun x hx => (h.2.1 x hx).but hb (hL x hx), h.2.2.but hb hA⟩
theorem but_three {w : World} {R i j k : Nat} {u v x : Value} : But R w (((w.setCell ⟨R, i, none⟩ u).setCell ⟨R, j, none⟩ v).setCell ⟨R, k, none⟩ x) :=
  ((but_setCell _ _ _ _).trans (but_setCell _ _ _ _)).trans (but_setCell _ _ _ _)
theorem cut_hT (A : Option Addr) (n c k : Nat) (h : k ≤ n) (h2 : n ≤ c) (w : World) : (Instr.sliceAt 31 (.slice A n c) none (some (.int .i64 (k : Nat))) none).run Try.prog w = .ok (.slice A k c) w := by
  have hs : (Try.prog.elem 31) = 5 := by simp [Program.elem, Try.underlying31]
  obtain ⟨i0, hi0, _⟩ := info_parts u8_info
  rw [run_sliceAt_slice w 31 _ _ _ _ (by rw [hs]; exact Try.underlying31)]
  exact run_cut_any 31 5 Try.underlying31 i0 hi0 A n c k (by omega) w
theorem quo_4 (n : Nat) (p q : Operand) (h : n ≤ 140737488351232) (w : World) : (do eqGuard .quo 3 p q (.int .i64 (n : Int)) (.int .i64 4); binOp .quo 3 (.int .i64 (n : Int)) (.int .i64 4) : Sem Value).run Try.prog w = .ok (.int .i64 ((n / 4 : Nat) : Int)) w := by
  have e : (n : Int).tdiv 4 = ((n / 4 : Nat) : Int) := by rw [Int.tdiv_eq_ediv_of_nonneg (by omega)]; rfl
  have e2 : IntKind.i64.wrap ((n : Int) / 4) = (n : Int) / 4 := by rw [IntKind.wrap_i64]; omega
  simp only [eqGuard, go_sem]
  simp [go_sem, e, e2]
theorem mul_4n (n : Nat) (p q : Operand) (h : n ≤ 140737488351232) (w : World) : (do eqGuard .mul 3 p q (.int .i64 ((n / 4 : Nat) : Int)) (.int .i64 4); binOp .mul 3 (.int .i64 ((n / 4 : Nat) : Int)) (.int .i64 4) : Sem Value).run Try.prog w = .ok (.int .i64 ((n / 4 * 4 : Nat) : Int)) w := by
  have e2 : IntKind.i64.wrap (((n / 4 : Nat) : Int) * 4) = ((n / 4 * 4 : Nat) : Int) := by rw [IntKind.wrap_i64]; omega
  generalize n / 4 = m at *
  simp [eqGuard, go_sem, e2]
theorem conv_8 (m : Nat) : ∃ y : UInt8, ∀ w : World, (convert 3 5 (.int .i64 (m : Int))).run Try.prog w = .ok (.int .u8 (y.toNat : Int)) w := by
  have h := IntKind.wrap_u8 (m : Int)
  refine ⟨UInt8.ofNat (IntKind.u8.wrap (m : Int)).toNat, fun w => ?_⟩
  have e : ((UInt8.ofNat (IntKind.u8.wrap (m : Int)).toNat).toNat : Int) = IntKind.u8.wrap (m : Int) := by rw [UInt8.toNat_ofNat']; omega
  rw [e]
  simp [go_sem]
theorem flat_ge {α : Type} (f : α → List UInt8) (k : Nat) (hk : 1 ≤ k) (h : ∀ x, (f x).length = k) (l : List α) : l.length ≤ (l.flatMap f).length := by
  rw [flat_len f k h]
  exact Nat.le_mul_of_pos_left _ hk
theorem rep_small {r : Rep} (h : RepOk r) : r.tups.length ≤ 900000 ∧ r.abouts.length ≤ 900000 ∧ r.nums.length ≤ 900000 ∧ r.body.length ≤ 900000 := by
  obtain ⟨hk, hf, hb⟩ := Rep.err_zero h.err
  have hs := h.small
  have nf := bare_nf hb
  rw [Rep.one_len] at hs
  have hz : r.kind ≠ 1 → r.kind ≠ 2 → r.tups.length = 0 := fun a b => by rw [nf.2.2.1 a b]; rfl
  have hz2 : r.kind ≠ 4 → r.kind ≠ 5 → r.abouts.length = 0 := fun a b => by rw [nf.2.2.2.1 a b]; rfl
  have hz3 : r.kind ≠ 4 → r.nums.length = 0 := fun a => by rw [nf.2.2.2.2.1 a]; rfl
  have hz4 : r.kind ≠ 6 → r.body.length = 0 := fun a => by rw [(nf.2.2.2.2.2.2 a).2.2]; rfl
  have ht : r.kind = 1 ∨ r.kind = 2 → r.tups.length ≤ 60 := fun a => by
    have := flat_ge Tup.bytes 8 (by omega) Tup.bytes_len r.tups
    unfold Rep.tail at hs
    rw [if_pos a] at hs
    simp only [List.length_append, be_len] at hs
    omega
  have h5 : r.kind = 5 → r.abouts.length ≤ 60 := fun a => by
    have := flat_ge (fun x : Nat => be x 4) 4 (by omega) (fun x => be_len 4 x) r.abouts
    unfold Rep.tail at hs
    rw [if_neg (by omega), if_neg (by omega), if_neg (by omega), if_pos a] at hs
    simp only [List.length_append, be_len] at hs
    omega
  have h4 : r.kind = 4 → r.abouts.length ≤ 16 ∧ r.nums.length ≤ 16 := fun a => by
    obtain ⟨f1, f2, f3, _⟩ := Rep.fits_4 a hf
    omega
  have h6 : r.kind = 6 → r.body.length ≤ 60 := fun a => by
    unfold Rep.tail at hs
    rw [if_neg (by omega), if_neg (by omega), if_neg (by omega), if_neg (by omega)] at hs
    omega
  refine ⟨?_, ?_, ?_, ?_⟩
  · by_cases a : r.kind = 1 ∨ r.kind = 2
    · have := ht a; omega
    · have := hz (by omega) (by omega); omega
  · by_cases a : r.kind = 4
    · have := h4 a; omega
    · by_cases b : r.kind = 5
      · have := h5 b; omega
      · have := hz2 a b; omega
  · by_cases a : r.kind = 4
    · have := h4 a; omega
    · have := hz3 a; omega
  · by_cases a : r.kind = 6
    · have := h6 a; omega
    · have := hz4 a; omega
end Go.Proofs.Ytnchgmemajmkjaa.RP
namespace Go.Proofs.Ytnchgmemajmkjaa.RP
open Go.RowKit
set_option linter.unusedVariables false
set_option linter.unusedSimpArgs false
set_option maxRecDepth 20000

set_option maxRecDepth 100000 in
set_option maxHeartbeats 8000000 in
theorem rtcpTells_walk (A0 : Option Addr) (n0 c0 : Nat) (what nn : Int) (q : Rv) (Ab : Option Addr) (nb cb : Nat) (lb : List UInt8) (at' turn : Int) (z : World)
    (hR : RI z z.heap.size A0 n0 c0) (hn0 : n0 ≤ 281474976710656) (hwhat : I64 what) (hnn : I64 nn) (hq : IsR z z.heap.size q) (hB : R8 z z.heap.size Ab nb cb lb) (hnb : nb ≤ 140737488351232) (hat : I64 at') (htw : (Lit.int .u8 turn).wf = true) :
    Calls Try.prog 4 #[.slice A0 n0 c0, .int .i64 what, .int .i64 nn, q.val, .slice Ab nb cb, .int .i64 at', .int .u8 turn] z (Yes z) := by
  simp only [Rv.val, Rv.cells]
  have hQ := Blk.new z 33 #[.int .i64 q.r.kind, .int .u32 (q.r.src : Int), .int .u32 (q.r.about : Int), .slice q.At q.r.tups.length q.ct, .slice q.Aa q.r.abouts.length q.ca, .slice q.An q.r.nums.length q.cn, .int .u64 (q.r.rate : Int), .int .i64 q.r.ty, .int .i64 q.r.count, .slice q.Ab q.r.body.length q.cb]
  have b0 : Below z.heap.size z (z.alloc (.cells #[.int .i64 q.r.kind, .int .u32 (q.r.src : Int), .int .u32 (q.r.about : Int), .slice q.At q.r.tups.length q.ct, .slice q.Aa q.r.abouts.length q.ca, .slice q.An q.r.nums.length q.cn, .int .u64 (q.r.rate : Int), .int .i64 q.r.ty, .int .i64 q.r.count, .slice q.Ab q.r.body.length q.cb] 33)) := (Below.refl _ z).alloc (Nat.le_refl _) _
  have hzs : z.heap.size < (z.alloc (.cells #[.int .i64 q.r.kind, .int .u32 (q.r.src : Int), .int .u32 (q.r.about : Int), .slice q.At q.r.tups.length q.ct, .slice q.Aa q.r.abouts.length q.ca, .slice q.An q.r.nums.length q.cn, .int .u64 (q.r.rate : Int), .int .i64 q.r.ty, .int .i64 q.r.count, .slice q.Ab q.r.body.length q.cb] 33)).heap.size := by simp
  go_enter Try.func4, Try.ntmps4
  go_upto_region 1 with (fail)
  revert hQ b0 hzs
  generalize z.alloc (.cells #[.int .i64 q.r.kind, .int .u32 (q.r.src : Int), .int .u32 (q.r.about : Int), .slice q.At q.r.tups.length q.ct, .slice q.Aa q.r.abouts.length q.ca, .slice q.An q.r.nums.length q.cn, .int .u64 (q.r.rate : Int), .int .i64 q.r.ty, .int .i64 q.r.count, .slice q.Ab q.r.body.length q.cb] 33) = Z
  intro hQ b0 hzs
  have hT := tape_at6 (hR.on6 b0) hn0
  have bt : Below Z.heap.size Z (Z.alloc (.cells #[.slice A0 n0 c0, .int .i64 0] 26)) := (Below.refl _ Z).alloc (Nat.le_refl _) _
  have hgs : Z.heap.size < (Z.alloc (.cells #[.slice A0 n0 c0, .int .i64 0] 26)).heap.size := by simp
  go_wp2_with fail
  refine (tape_report _ _ hT).mono ?_
  rintro e w1 ⟨x1, rfl, hX1, ok1, l1, hm1⟩
  simp only [Rv.val, Rv.cells]
  go_wp2_with fail
  refine (tape_report _ _ hm1.tape).mono ?_
  rintro e w2 ⟨x2, rfl, hX2, ok2, l2, hm2⟩
  simp only [Rv.val, Rv.cells]
  go_wp2_with fail
  refine (tape_report _ _ hm2.tape).mono ?_
  rintro e w3 ⟨x3, rfl, hX3, ok3, l3, hm3⟩
  simp only [Rv.val, Rv.cells]
  have bz := bt.trans (hm1.below.trans (hm2.below.trans hm3.below))
  have b3 := b0.trans (bz.mono b0.size)
  have s1 := hm1.below.size
  have hof1 : x1.Off z.heap.size := fun ad had => by have := (l1 ad had).1; omega
  have hof2 : x2.Off z.heap.size := fun ad had => by have := (l2 ad had).1; omega
  have hof3 : x3.Off z.heap.size := fun ad had => by have := (l3 ad had).1; have := hm2.below.size; omega
  have hX1b := (hX1.but (But.of_moves hm2) (fun ad had => by have := (l1 ad had).1; omega)).but (But.of_moves hm3) (fun ad had => by have := (l1 ad had).1; omega)
  have hX2b := hX2.but (But.of_moves hm3) (fun ad had => by have := (l2 ad had).1; omega)
  have hQ3 := hQ.below bz hzs
  clear hT hm1 hm2 hm3 l1 l2 l3 bt bz b0 hX1 hX2 hgs hQ hzs s1 hR
  go_upto_region 3 with (fail)
  have bl := (Below.refl _ w3).alloc (Nat.le_refl _) (.cells #[.int .i64 x1.r.kind, .int .u32 (x1.r.src : Int), .int .u32 (x1.r.about : Int), .slice x1.At x1.r.tups.length x1.ct, .slice x1.Aa x1.r.abouts.length x1.ca, .slice x1.An x1.r.nums.length x1.cn, .int .u64 (x1.r.rate : Int), .int .i64 x1.r.ty, .int .i64 x1.r.count, .slice x1.Ab x1.r.body.length x1.cb, .int .i64 x2.r.kind, .int .u32 (x2.r.src : Int), .int .u32 (x2.r.about : Int), .slice x2.At x2.r.tups.length x2.ct, .slice x2.Aa x2.r.abouts.length x2.ca, .slice x2.An x2.r.nums.length x2.cn, .int .u64 (x2.r.rate : Int), .int .i64 x2.r.ty, .int .i64 x2.r.count, .slice x2.Ab x2.r.body.length x2.cb, .int .i64 x3.r.kind, .int .u32 (x3.r.src : Int), .int .u32 (x3.r.about : Int), .slice x3.At x3.r.tups.length x3.ct, .slice x3.Aa x3.r.abouts.length x3.ca, .slice x3.An x3.r.nums.length x3.cn, .int .u64 (x3.r.rate : Int), .int .i64 x3.r.ty, .int .i64 x3.r.count, .slice x3.Ab x3.r.body.length x3.cb] 33)
  have hB3 := Blk.new w3 33 #[.int .i64 x1.r.kind, .int .u32 (x1.r.src : Int), .int .u32 (x1.r.about : Int), .slice x1.At x1.r.tups.length x1.ct, .slice x1.Aa x1.r.abouts.length x1.ca, .slice x1.An x1.r.nums.length x1.cn, .int .u64 (x1.r.rate : Int), .int .i64 x1.r.ty, .int .i64 x1.r.count, .slice x1.Ab x1.r.body.length x1.cb, .int .i64 x2.r.kind, .int .u32 (x2.r.src : Int), .int .u32 (x2.r.about : Int), .slice x2.At x2.r.tups.length x2.ct, .slice x2.Aa x2.r.abouts.length x2.ca, .slice x2.An x2.r.nums.length x2.cn, .int .u64 (x2.r.rate : Int), .int .i64 x2.r.ty, .int .i64 x2.r.count, .slice x2.Ab x2.r.body.length x2.cb, .int .i64 x3.r.kind, .int .u32 (x3.r.src : Int), .int .u32 (x3.r.about : Int), .slice x3.At x3.r.tups.length x3.ct, .slice x3.Aa x3.r.abouts.length x3.ca, .slice x3.An x3.r.nums.length x3.cn, .int .u64 (x3.r.rate : Int), .int .i64 x3.r.ty, .int .i64 x3.r.count, .slice x3.Ab x3.r.body.length x3.cb]
  have hrr := rr_block (n := 3) (L := [x1, x2, x3]) (Blk.new w3 33 #[.int .i64 x1.r.kind, .int .u32 (x1.r.src : Int), .int .u32 (x1.r.about : Int), .slice x1.At x1.r.tups.length x1.ct, .slice x1.Aa x1.r.abouts.length x1.ca, .slice x1.An x1.r.nums.length x1.cn, .int .u64 (x1.r.rate : Int), .int .i64 x1.r.ty, .int .i64 x1.r.count, .slice x1.Ab x1.r.body.length x1.cb, .int .i64 x2.r.kind, .int .u32 (x2.r.src : Int), .int .u32 (x2.r.about : Int), .slice x2.At x2.r.tups.length x2.ct, .slice x2.Aa x2.r.abouts.length x2.ca, .slice x2.An x2.r.nums.length x2.cn, .int .u64 (x2.r.rate : Int), .int .i64 x2.r.ty, .int .i64 x2.r.count, .slice x2.Ab x2.r.body.length x2.cb, .int .i64 x3.r.kind, .int .u32 (x3.r.src : Int), .int .u32 (x3.r.about : Int), .slice x3.At x3.r.tups.length x3.ct, .slice x3.Aa x3.r.abouts.length x3.ca, .slice x3.An x3.r.nums.length x3.cn, .int .u64 (x3.r.rate : Int), .int .i64 x3.r.ty, .int .i64 x3.r.count, .slice x3.Ab x3.r.body.length x3.cb]) rfl rfl (fun y hy => by simp only [List.mem_cons, List.not_mem_nil, or_false] at hy; rcases hy with rfl | rfl | rfl <;> first | exact hX1b.on bl | exact hX2b.on bl | exact hX3.on bl)
  have b4 := b3.trans (bl.mono b3.size)
  have hQ4 := hQ3.below bl hQ3.lt
  have hPz : z.heap.size < w3.heap.size := hQ3.lt
  clear bl hX1b hX2b hX3 b3 hQ3
  revert hB3 hrr b4 hQ4 hPz
  generalize w3.alloc (.cells #[.int .i64 x1.r.kind, .int .u32 (x1.r.src : Int), .int .u32 (x1.r.about : Int), .slice x1.At x1.r.tups.length x1.ct, .slice x1.Aa x1.r.abouts.length x1.ca, .slice x1.An x1.r.nums.length x1.cn, .int .u64 (x1.r.rate : Int), .int .i64 x1.r.ty, .int .i64 x1.r.count, .slice x1.Ab x1.r.body.length x1.cb, .int .i64 x2.r.kind, .int .u32 (x2.r.src : Int), .int .u32 (x2.r.about : Int), .slice x2.At x2.r.tups.length x2.ct, .slice x2.Aa x2.r.abouts.length x2.ca, .slice x2.An x2.r.nums.length x2.cn, .int .u64 (x2.r.rate : Int), .int .i64 x2.r.ty, .int .i64 x2.r.count, .slice x2.Ab x2.r.body.length x2.cb, .int .i64 x3.r.kind, .int .u32 (x3.r.src : Int), .int .u32 (x3.r.about : Int), .slice x3.At x3.r.tups.length x3.ct, .slice x3.Aa x3.r.abouts.length x3.ca, .slice x3.An x3.r.nums.length x3.cn, .int .u64 (x3.r.rate : Int), .int .i64 x3.r.ty, .int .i64 x3.r.count, .slice x3.Ab x3.r.body.length x3.cb] 33) = V
  generalize w3.heap.size = P
  intro hB3 hrr b4 hQ4 hPz
  have qy := ref6_bytes _ _ _ _ V hrr (by omega)
  have hok : ∀ r ∈ [x1, x2, x3].map Rv.r, RepOk r := by intro r hr; simp only [List.map_cons, List.map_nil, List.mem_cons, List.not_mem_nil, or_false] at hr; rcases hr with rfl | rfl | rfl <;> first | exact ok1 | exact ok2 | exact ok3
  replace qy := qy.mono fun e w' h => h.1 (ok_errs (l := [x1, x2, x3].map Rv.r) (by simp) hok (by simp))
  have hl60 := ones_len60 _ hok
  have hl12 := ones_length ([x1, x2, x3].map Rv.r)
  simp only [List.length_map, List.length_cons, List.length_nil] at hl60 hl12
  obtain ⟨B, hBB⟩ : ∃ B, onesB ([x1, x2, x3].map Rv.r) = B := ⟨_, rfl⟩
  rw [hBB] at qy hl60 hl12
  have HXS := Lib.hid hok
  clear hok hBB ok1 ok2 ok3
  go_wp2_with fail
  refine qy.mono ?_
  rintro e w5 ⟨v5, rfl, ho5, bz⟩
  obtain ⟨g3, x5, hv5, hg3, hg3l, hfz, hcell⟩ := own8_some6 ho5 (by omega)
  subst hv5
  obtain ⟨L, hL⟩ : ∃ L, B.length = L := ⟨_, rfl⟩
  rw [hL] at hcell hl60 hl12 ho5 ⊢
  have HL := Lib.hid hL
  obtain ⟨r, hr0, hr1, _, hrw⟩ := within_ex at' 0 ((L : Int) - 1) hat (by omega) (by omega) (by omega)
  obtain ⟨i, rfl⟩ := Int.eq_ofNat_of_zero_le hr0
  have hi : i < L := by omega
  have x0 := hcell i hi
  have z0 := hfz i
  obtain ⟨y, hy⟩ := xor86 ((B.getD i 0).toNat : Int) turn
  have g2 : (i : Int) < (L : Int) := by omega
  have ho6 := own8_setAt6 (i := i) ho5 (by rw [hL]; exact hi) y
  obtain ⟨Ax, cx, hvx, hx6⟩ := ho6.r8
  injection hvx with hA1 hA2 hA3
  subst hA1 hA3
  clear hA2
  rw [List.length_set, hL] at hx6
  have bz6 : Below V.heap.size V (w5.setCell ⟨g3, i, none⟩ (.int .u8 (y.toNat : Int))) := bz.setCell (p := ⟨g3, i, none⟩) hg3 _
  have b6 := b4.trans (bz6.mono b4.size)
  have hQ6 := hQ4.below bz6 hQ4.lt
  have hB6 := hB3.below bz6 hB3.lt
  have hrr6 := hrr.on bz6
  have hL1 : (i : Int) ≤ (L : Int) - 1 := by omega
  have hg3R : g3 ≠ z.heap.size := by have := hB3.lt; omega
  clear hcell hfz ho5 ho6 bz bz6 qy hL b4 hQ4 hB3 hrr hr0 hr1 hg3 hg3l
  generalize (B.getD i 0).toNat = X at x0 hy
  generalize B.set i y = lx at hx6
  go_wp2_with fail
  refine (hrw _).mono ?_
  rintro e w' ⟨rfl, hw⟩
  obtain rfl := hw.symm
  go_upto_region 5 with (fail)
  clear x0 z0 hrw hy
  revert hx6 b6 hQ6 hB6 hrr6
  generalize w5.setCell ⟨g3, i, none⟩ (.int .u8 (y.toNat : Int)) = W6
  intro b6 hQ6 hB6 hrr6 hx6
  obtain ⟨j0, j1, j2, j3, j4, j5, j6, j7, j8, j9⟩ := blk10 hQ6
  have f3 := hQ6.frozen 3
  have f4 := hQ6.frozen 4
  have f5 := hQ6.frozen 5
  obtain ⟨k1, hk1⟩ : ∃ k : Nat, min (q.r.tups.length : Int) 9 = (k : Int) := ⟨min q.r.tups.length 9, by omega⟩
  obtain ⟨k2, hk2⟩ : ∃ k : Nat, min (q.r.abouts.length : Int) 20 = (k : Int) := ⟨min q.r.abouts.length 20, by omega⟩
  obtain ⟨k3, hk3⟩ : ∃ k : Nat, min (q.r.nums.length : Int) 20 = (k : Int) := ⟨min q.r.nums.length 20, by omega⟩
  have m1 : k1 ≤ q.r.tups.length := by omega
  have m2 : k2 ≤ q.r.abouts.length := by omega
  have m3 : k3 ≤ q.r.nums.length := by omega
  have m1c : (k1 : Int) ≤ (q.ct : Int) := by have := hq.tups.2.2.2.1; omega
  have m2c : (k2 : Int) ≤ (q.ca : Int) := by have := hq.abouts.2.1; omega
  have m3c : (k3 : Int) ≤ (q.cn : Int) := by have := hq.nums.2.2.2.1; omega
  obtain ⟨i1, hi1, _⟩ := info_parts tuple_info
  obtain ⟨i2, hi2, _⟩ := info_parts u32_info
  obtain ⟨i3, hi3, _⟩ := info_parts int_info
  have u1 := fun W => run_cut_any (P := Try.prog) 28 57 Try.underlying28 i1 hi1 q.At q.r.tups.length q.ct k1 (by omega) W
  have u2 := fun W => run_cut_any (P := Try.prog) 29 27 Try.underlying29 i2 hi2 q.Aa q.r.abouts.length q.ca k2 (by omega) W
  have u3 := fun W => run_cut_any (P := Try.prog) 23 3 Try.underlying23 i3 hi3 q.An q.r.nums.length q.cn k3 (by omega) W
  have M := Lib.hid (And.intro m1 (And.intro m2 m3))
  clear m1 m2 m3 hi1 hi2 hi3
  go_wp2_with fail
  have b9 : Below z.heap.size z (((W6.setCell ⟨z.heap.size, 3, none⟩ (.slice q.At k1 q.ct)).setCell ⟨z.heap.size, 4, none⟩ (.slice q.Aa k2 q.ca)).setCell ⟨z.heap.size, 5, none⟩ (.slice q.An k3 q.cn)) := ((b6.setCell (p := ⟨z.heap.size, 3, none⟩) (Nat.le_refl _) _).setCell (p := ⟨z.heap.size, 4, none⟩) (Nat.le_refl _) _).setCell (p := ⟨z.heap.size, 5, none⟩) (Nat.le_refl _) _
  have bn9 : But z.heap.size W6 (((W6.setCell ⟨z.heap.size, 3, none⟩ (.slice q.At k1 q.ct)).setCell ⟨z.heap.size, 4, none⟩ (.slice q.Aa k2 q.ca)).setCell ⟨z.heap.size, 5, none⟩ (.slice q.An k3 q.cn)) := but_three
  have hQ9 := ((hQ6.set_ 3 (.slice q.At k1 q.ct)).set_ 4 (.slice q.Aa k2 q.ca)).set_ 5 (.slice q.An k3 q.cn)
  simp only [List.setIfInBounds_toArray, List.set_cons_succ, List.set_cons_zero] at hQ9
  obtain ⟨y_, hIy0, hyc⟩ := rep_cut (k1 := k1) (k2 := k2) (k3 := k3) hq M.out.1 M.out.2.1 M.out.2.2
  rw [← hyc] at hQ9
  have hB9P : Blk (((W6.setCell ⟨z.heap.size, 3, none⟩ (.slice q.At k1 q.ct)).setCell ⟨z.heap.size, 4, none⟩ (.slice q.Aa k2 q.ca)).setCell ⟨z.heap.size, 5, none⟩ (.slice q.An k3 q.cn)) P 33 #[.int .i64 x1.r.kind, .int .u32 (x1.r.src : Int), .int .u32 (x1.r.about : Int), .slice x1.At x1.r.tups.length x1.ct, .slice x1.Aa x1.r.abouts.length x1.ca, .slice x1.An x1.r.nums.length x1.cn, .int .u64 (x1.r.rate : Int), .int .i64 x1.r.ty, .int .i64 x1.r.count, .slice x1.Ab x1.r.body.length x1.cb, .int .i64 x2.r.kind, .int .u32 (x2.r.src : Int), .int .u32 (x2.r.about : Int), .slice x2.At x2.r.tups.length x2.ct, .slice x2.Aa x2.r.abouts.length x2.ca, .slice x2.An x2.r.nums.length x2.cn, .int .u64 (x2.r.rate : Int), .int .i64 x2.r.ty, .int .i64 x2.r.count, .slice x2.Ab x2.r.body.length x2.cb, .int .i64 x3.r.kind, .int .u32 (x3.r.src : Int), .int .u32 (x3.r.about : Int), .slice x3.At x3.r.tups.length x3.ct, .slice x3.Aa x3.r.abouts.length x3.ca, .slice x3.An x3.r.nums.length x3.cn, .int .u64 (x3.r.rate : Int), .int .i64 x3.r.ty, .int .i64 x3.r.count, .slice x3.Ab x3.r.body.length x3.cb] := ((hB6.far (p := ⟨z.heap.size, 3, none⟩) (by simp only; omega) _).far (p := ⟨z.heap.size, 4, none⟩) (by simp only; omega) _).far (p := ⟨z.heap.size, 5, none⟩) (by simp only; omega) _
  have hrr9 := RR.but6 hrr6 bn9 (fun ad e => by injection e with e; subst e; simp only; omega) (fun u hu => by simp only [List.mem_cons, List.not_mem_nil, or_false] at hu; rcases hu with rfl | rfl | rfl <;> first | exact hof1 | exact hof2 | exact hof3)
  have hx9 := hx6.but bn9 (fun ad e => by injection e with e; subst e; exact hg3R)
  have hIy := hIy0.on b9
  have hB9 := hB.on b9
  clear hyc hIy0 b6 bn9 hQ6 hB6 hrr6 hx6 j0 j1 j2 j3 j4 j5 j6 j7 j8 j9 f3 f4 f5 u1 u2 u3 M m1c m2c m3c hq hB hof1 hof2 hof3 hg3R hk1 hk2 hk3
  revert b9 hQ9 hB9P hrr9 hx9 hIy hB9
  generalize (((W6.setCell ⟨z.heap.size, 3, none⟩ (.slice q.At k1 q.ct)).setCell ⟨z.heap.size, 4, none⟩ (.slice q.Aa k2 q.ca)).setCell ⟨z.heap.size, 5, none⟩ (.slice q.An k3 q.cn)) = W9
  intro b9 hQ9 hB9P hrr9 hx9 hIy hB9
  have hQ9 : Blk W9 z.heap.size 33 #[.int .i64 y_.r.kind, .int .u32 (y_.r.src : Int), .int .u32 (y_.r.about : Int), .slice y_.At y_.r.tups.length y_.ct, .slice y_.Aa y_.r.abouts.length y_.ca, .slice y_.An y_.r.nums.length y_.cn, .int .u64 (y_.r.rate : Int), .int .i64 y_.r.ty, .int .i64 y_.r.count, .slice y_.Ab y_.r.body.length y_.cb] := hQ9
  generalize y_ = y at hQ9 hIy
  obtain ⟨R0, hR0⟩ : ∃ R0, z.heap.size = R0 := ⟨_, rfl⟩
  have b9h : Below R0 z W9 := hR0 ▸ b9
  rw [hR0] at hQ9
  have HR0 := Lib.hid hR0
  rw [hR0]
  clear b9 hR0 hPz
  have hPl := hB9P.lt
  have hQl := hQ9.lt
  have hI1 : IsR W9 W9.heap.size x1 := hrr9.2.1 x1 (by simp)
  have hI2 : IsR W9 W9.heap.size x2 := hrr9.2.1 x2 (by simp)
  have hI3 : IsR W9 W9.heap.size x3 := hrr9.2.1 x3 (by simp)
  have hsm : x1.r.tups.length ≤ 900000 ∧ x1.r.abouts.length ≤ 900000 ∧ x1.r.nums.length ≤ 900000 ∧ x1.r.body.length ≤ 900000 := rep_small (HXS.out x1.r (by simp))
  obtain ⟨y8, hy8⟩ := or86 128 (bits BinOp.and .u8 turn 31)
  have HY8 := Lib.hid hy8
  obtain ⟨y9, hy9⟩ := conv_8 (nb / 4)
  have hBc := hB9.2.1
  have hBK := hB9.take_ (nb / 4 * 4) (by omega)
  generalize lb.take (nb / 4 * 4) = lk at hBK
  obtain ⟨D, hD⟩ : ∃ D, decide (x1.r = y.r) = D := ⟨_, rfl⟩
  have hS1 := fun W h1 h2 => rtcp_Same x1 y W h1 h2
  have hS2 := fun W h1 h2 => ref6_Same x1 y W h1 h2
  rw [hD] at hS1 hS2
  clear hD hy8 HXS
  refine wp_region_tbl [.val (.slice (some ⟨P, 0, none⟩) 3 3), .val (.bool true), .val (.bool true), .val (.slice (some ⟨P, 0, none⟩) 3 3), .val (.pointer (some ⟨P, 0, none⟩)), .val (.agg #[.int .i64 x1.r.kind, .int .u32 (x1.r.src : Int), .int .u32 (x1.r.about : Int), .slice x1.At x1.r.tups.length x1.ct, .slice x1.Aa x1.r.abouts.length x1.ca, .slice x1.An x1.r.nums.length x1.cn, .int .u64 (x1.r.rate : Int), .int .i64 x1.r.ty, .int .i64 x1.r.count, .slice x1.Ab x1.r.body.length x1.cb]), .val (.int .i64 what), .val (.int .i64 nn), rvC, .val (.slice (some ⟨P, 0, none⟩) 3 3), .val (.pointer (some ⟨P, 10, none⟩)), .val (.agg #[.int .i64 x2.r.kind, .int .u32 (x2.r.src : Int), .int .u32 (x2.r.about : Int), .slice x2.At x2.r.tups.length x2.ct, .slice x2.Aa x2.r.abouts.length x2.ca, .slice x2.An x2.r.nums.length x2.cn, .int .u64 (x2.r.rate : Int), .int .i64 x2.r.ty, .int .i64 x2.r.count, .slice x2.Ab x2.r.body.length x2.cb]), rowC 2, .val (.bool true), .val (.bool true), .val (.bool true), .val (.slice (some ⟨P, 0, none⟩) 3 3), .val (.pointer (some ⟨P, 20, none⟩)), .val (.agg #[.int .i64 x3.r.kind, .int .u32 (x3.r.src : Int), .int .u32 (x3.r.about : Int), .slice x3.At x3.r.tups.length x3.ct, .slice x3.Aa x3.r.abouts.length x3.ca, .slice x3.An x3.r.nums.length x3.cn, .int .u64 (x3.r.rate : Int), .int .i64 x3.r.ty, .int .i64 x3.r.count, .slice x3.Ab x3.r.body.length x3.cb]), .val (.slice (some ⟨P, 0, none⟩) 3 3), .val (.pointer (some ⟨P, 0, none⟩)), .val (.agg #[.int .i64 x1.r.kind, .int .u32 (x1.r.src : Int), .int .u32 (x1.r.about : Int), .slice x1.At x1.r.tups.length x1.ct, .slice x1.Aa x1.r.abouts.length x1.ca, .slice x1.An x1.r.nums.length x1.cn, .int .u64 (x1.r.rate : Int), .int .i64 x1.r.ty, .int .i64 x1.r.count, .slice x1.Ab x1.r.body.length x1.cb]), .val (.int .i64 what), .val (.int .i64 nn), .val (.int .i64 (bits BinOp.and .i64 nn 511)), rvC, rowC 2, .val (.bool true), .val (.bool true), .val (.bool true), .val (.agg #[.int .i64 y.r.kind, .int .u32 (y.r.src : Int), .int .u32 (y.r.about : Int), .slice y.At y.r.tups.length y.ct, .slice y.Aa y.r.abouts.length y.ca, .slice y.An y.r.nums.length y.cn, .int .u64 (y.r.rate : Int), .int .i64 y.r.ty, .int .i64 y.r.count, .slice y.Ab y.r.body.length y.cb]), rowC 1, .val (.bool true), .val (.bool true), .val (.bool true), .val (.slice (some ⟨g3, 0, none⟩) L x5), .val (.bool true), .val (.bool true), .val (.bool true), .val (.slice Ab nb cb), .val (.bool true), .val (.bool true), .val (.bool true), .val (.int .u8 turn), .val (.int .u8 (bits BinOp.and .u8 turn 31)), .val (.int .u8 (y8.toNat : Int)), .val (.slice Ab nb cb), .val (.int .i64 (nb : Nat)), .val (.int .i64 (nb / 4 : Nat)), .val (.int .u8 (y9.toNat : Int)), fourC [y8, 205, 0, y9], .val (.slice Ab nb cb), .val (.slice Ab nb cb), .val (.int .i64 (nb : Nat)), .val (.int .i64 (nb / 4 : Nat)), .val (.int .i64 (nb / 4 * 4 : Nat)), .val (.slice Ab (nb / 4 * 4) cb), octC ([y8, 205, 0, y9] ++ lk), .val (.bool true), .val (.bool true), .val (.bool true), .val (.slice (some ⟨P, 0, none⟩) 3 3), .val (.pointer (some ⟨P, 0, none⟩)), .val (.agg #[.int .i64 x1.r.kind, .int .u32 (x1.r.src : Int), .int .u32 (x1.r.about : Int), .slice x1.At x1.r.tups.length x1.ct, .slice x1.Aa x1.r.abouts.length x1.ca, .slice x1.An x1.r.nums.length x1.cn, .int .u64 (x1.r.rate : Int), .int .i64 x1.r.ty, .int .i64 x1.r.count, .slice x1.Ab x1.r.body.length x1.cb]), .val (.agg #[.int .i64 y.r.kind, .int .u32 (y.r.src : Int), .int .u32 (y.r.about : Int), .slice y.At y.r.tups.length y.ct, .slice y.Aa y.r.abouts.length y.ca, .slice y.An y.r.nums.length y.cn, .int .u64 (y.r.rate : Int), .int .i64 y.r.ty, .int .i64 y.r.count, .slice y.Ab y.r.body.length y.cb]), .val (.bool D), .val (.slice (some ⟨P, 0, none⟩) 3 3), .val (.pointer (some ⟨P, 0, none⟩)), .val (.agg #[.int .i64 x1.r.kind, .int .u32 (x1.r.src : Int), .int .u32 (x1.r.about : Int), .slice x1.At x1.r.tups.length x1.ct, .slice x1.Aa x1.r.abouts.length x1.ca, .slice x1.An x1.r.nums.length x1.cn, .int .u64 (x1.r.rate : Int), .int .i64 x1.r.ty, .int .i64 x1.r.count, .slice x1.Ab x1.r.body.length x1.cb]), .val (.agg #[.int .i64 y.r.kind, .int .u32 (y.r.src : Int), .int .u32 (y.r.about : Int), .slice y.At y.r.tups.length y.ct, .slice y.Aa y.r.abouts.length y.ca, .slice y.An y.r.nums.length y.cn, .int .u64 (y.r.rate : Int), .int .i64 y.r.ty, .int .i64 y.r.count, .slice y.Ab y.r.body.length y.cb]), .val (.bool D), .val (.bool true), .val (.bool true), .val (.bool true), .val (.bool true), .val (.bool true), .val (.bool true)] (by kernel_rfl) (by kernel_rfl) (by kernel_rfl) (AllObl.all ⟨?_, ?_, ?_, ?_, ?_, ?_, ?_, ?_, ?_, ?_, ?_, ?_, ?_, ?_, ?_, ?_, ?_, ?_, ?_, ?_, ?_, ?_, ?_, ?_, ?_, ?_, ?_, ?_, ?_, ?_, ?_, ?_, ?_, ?_, ?_, ?_, ?_, ?_, ?_, ?_, ?_, ?_, ?_, ?_, ?_, ?_, ?_, ?_, ?_, ?_, ?_, ?_, ?_, ?_, ?_, ?_, ?_, ?_, ?_, ?_, ?_, ?_, ?_, ?_, ?_, ?_, ?_, ?_, ?_, ?_, ?_, ?_, ?_, ?_, ?_, ?_, ?_, trivial⟩) ?_
  · exact Obl.move trivial _ (Or.inl rfl) (by kernel_rfl)
  · exact Obl.call trivial 11 #[.tmp 69] _ rfl Try.f11 Try.func11 (by kernel_rfl) (by kernel_rfl) (fun ev w hb hx => by
      have e69 : ev (.tmp 69) = .slice (some ⟨P, 0, none⟩) 3 3 := holds_val (hx (.tmp 69)) (by kernel_rfl)
      simp only [List.map_toArray, List.map_cons, List.map_nil, e69]
      exact ((law6_same _ _ _ [x1, x2, x3] w (hrr9.on ((drew_below _).trans hb)) (by omega))).mono fun _ _ hh => Val.holds (by kernel_rfl) hh)
  · exact Obl.move trivial _ (Or.inl rfl) (by kernel_rfl)
  · exact Obl.move ⟨by kernel_rfl, by kernel_rfl, by kernel_rfl⟩ _ (Or.inl rfl) (by kernel_rfl)
  · exact Obl.pure ⟨by kernel_rfl, by kernel_rfl, by kernel_rfl⟩ (.pointer (some ⟨P, 0, none⟩)) (by kernel_rfl) (fun ev w hb hx => by
      have e72 : ev (.tmp 72) = .slice (some ⟨P, 0, none⟩) 3 3 := holds_val (hx (.tmp 72)) (by kernel_rfl)
      have k0 : ev (.const (.int .i64 0)) = (.int .i64 0) := holds_val (hx (.const (.int .i64 0))) (by kernel_rfl)
      simp [execOp, e72, k0, go_sem])
  · exact Obl.pure ⟨by kernel_rfl, by kernel_rfl, by kernel_rfl⟩ (.agg #[.int .i64 x1.r.kind, .int .u32 (x1.r.src : Int), .int .u32 (x1.r.about : Int), .slice x1.At x1.r.tups.length x1.ct, .slice x1.Aa x1.r.abouts.length x1.ca, .slice x1.An x1.r.nums.length x1.cn, .int .u64 (x1.r.rate : Int), .int .i64 x1.r.ty, .int .i64 x1.r.count, .slice x1.Ab x1.r.body.length x1.cb]) (by kernel_rfl) (fun ev w hb hx => by
      have e73 : ev (.tmp 73) = .pointer (some ⟨P, 0, none⟩) := holds_val (hx (.tmp 73)) (by kernel_rfl)
      have hw := hB9P.below ((drew_below _).trans hb) hPl; have m0 := (hw.cell 0).trans rfl; have m1 := (hw.cell 1).trans rfl; have m2 := (hw.cell 2).trans rfl; have m3 := (hw.cell 3).trans rfl; have m4 := (hw.cell 4).trans rfl; have m5 := (hw.cell 5).trans rfl; have m6 := (hw.cell 6).trans rfl; have m7 := (hw.cell 7).trans rfl; have m8 := (hw.cell 8).trans rfl; have m9 := (hw.cell 9).trans rfl; simp [execOp, e73, go_sem, m0, m1, m2, m3, m4, m5, m6, m7, m8, m9])
  · exact Obl.move ⟨by kernel_rfl, by kernel_rfl, by kernel_rfl⟩ _ (Or.inl rfl) (by kernel_rfl)
  · exact Obl.move ⟨by kernel_rfl, by kernel_rfl, by kernel_rfl⟩ _ (Or.inl rfl) (by kernel_rfl)
  · exact Obl.call ⟨by kernel_rfl, by kernel_rfl, by kernel_rfl⟩ 12 #[.tmp 74, .tmp 75, .tmp 76] _ rfl Try.f12 Try.func12 (by kernel_rfl) (by kernel_rfl) (fun ev w hb hx => by
      have e74 : ev (.tmp 74) = .agg #[.int .i64 x1.r.kind, .int .u32 (x1.r.src : Int), .int .u32 (x1.r.about : Int), .slice x1.At x1.r.tups.length x1.ct, .slice x1.Aa x1.r.abouts.length x1.ca, .slice x1.An x1.r.nums.length x1.cn, .int .u64 (x1.r.rate : Int), .int .i64 x1.r.ty, .int .i64 x1.r.count, .slice x1.Ab x1.r.body.length x1.cb] := holds_val (hx (.tmp 74)) (by kernel_rfl)
      have e75 : ev (.tmp 75) = .int .i64 what := holds_val (hx (.tmp 75)) (by kernel_rfl)
      have e76 : ev (.tmp 76) = .int .i64 nn := holds_val (hx (.tmp 76)) (by kernel_rfl)
      simp only [List.map_toArray, List.map_cons, List.map_nil, e74, e75, e76]
      exact ((show Calls _ _ #[.agg #[.int .i64 x1.r.kind, .int .u32 (x1.r.src : Int), .int .u32 (x1.r.about : Int), .slice x1.At x1.r.tups.length x1.ct, .slice x1.Aa x1.r.abouts.length x1.ca, .slice x1.An x1.r.nums.length x1.cn, .int .u64 (x1.r.rate : Int), .int .i64 x1.r.ty, .int .i64 x1.r.count, .slice x1.Ab x1.r.body.length x1.cb], .int .i64 what, .int .i64 nn] _ _ from odd_c x1 what nn w (hI1.on ((drew_below _).trans hb)) hwhat hnn hsm)).mono fun _ _ hh => rvC_ret (by kernel_rfl) hh)
  · exact Obl.move ⟨by kernel_rfl, by kernel_rfl, by kernel_rfl⟩ _ (Or.inl rfl) (by kernel_rfl)
  · exact Obl.pure ⟨by kernel_rfl, by kernel_rfl, by kernel_rfl⟩ (.pointer (some ⟨P, 10, none⟩)) (by kernel_rfl) (fun ev w hb hx => by
      have e78 : ev (.tmp 78) = .slice (some ⟨P, 0, none⟩) 3 3 := holds_val (hx (.tmp 78)) (by kernel_rfl)
      have k0 : ev (.const (.int .i64 1)) = (.int .i64 1) := holds_val (hx (.const (.int .i64 1))) (by kernel_rfl)
      simp [execOp, e78, k0, go_sem])
  · exact Obl.pure ⟨by kernel_rfl, by kernel_rfl, by kernel_rfl⟩ (.agg #[.int .i64 x2.r.kind, .int .u32 (x2.r.src : Int), .int .u32 (x2.r.about : Int), .slice x2.At x2.r.tups.length x2.ct, .slice x2.Aa x2.r.abouts.length x2.ca, .slice x2.An x2.r.nums.length x2.cn, .int .u64 (x2.r.rate : Int), .int .i64 x2.r.ty, .int .i64 x2.r.count, .slice x2.Ab x2.r.body.length x2.cb]) (by kernel_rfl) (fun ev w hb hx => by
      have e79 : ev (.tmp 79) = .pointer (some ⟨P, 10, none⟩) := holds_val (hx (.tmp 79)) (by kernel_rfl)
      have hw := hB9P.below ((drew_below _).trans hb) hPl; have m0 := (hw.cell 10).trans rfl; have m1 := (hw.cell 11).trans rfl; have m2 := (hw.cell 12).trans rfl; have m3 := (hw.cell 13).trans rfl; have m4 := (hw.cell 14).trans rfl; have m5 := (hw.cell 15).trans rfl; have m6 := (hw.cell 16).trans rfl; have m7 := (hw.cell 17).trans rfl; have m8 := (hw.cell 18).trans rfl; have m9 := (hw.cell 19).trans rfl; simp [execOp, e79, go_sem, m0, m1, m2, m3, m4, m5, m6, m7, m8, m9])
  · exact Obl.act ⟨by kernel_rfl, by kernel_rfl, by kernel_rfl⟩ (fun ev w hb hx => by
      obtain ⟨y77, e77, i77⟩ := rvC_of (hx (.tmp 77)) (by kernel_rfl)
      have e80 : ev (.tmp 80) = .agg #[.int .i64 x2.r.kind, .int .u32 (x2.r.src : Int), .int .u32 (x2.r.about : Int), .slice x2.At x2.r.tups.length x2.ct, .slice x2.Aa x2.r.abouts.length x2.ca, .slice x2.An x2.r.nums.length x2.cn, .int .u64 (x2.r.rate : Int), .int .i64 x2.r.ty, .int .i64 x2.r.count, .slice x2.Ab x2.r.body.length x2.cb] := holds_val (hx (.tmp 80)) (by kernel_rfl)
      (exact ⟨.slice (some ⟨w.heap.size, 0, none⟩) 2 2, w.alloc (.cells ((cellsR [y77, x2]).toArray) 33), (by simp [execOp, e77, e80, go_sem, Rv.val, Rv.cells]; rfl), (Below.refl _ _).alloc (Nat.le_refl _) _, rowC_mk (n := 2) (by kernel_rfl) ⟨_, 2, [y77, x2], rfl, rr_block (Blk.new _ _ _) rfl rfl (fun u hu => by simp only [List.mem_cons, List.not_mem_nil, or_false] at hu; rcases hu with rfl | rfl <;> first | exact i77.on ((Below.refl w.heap.size w).alloc (Nat.le_refl _) _) | exact (hI2.on ((drew_below _).trans hb)).on ((Below.refl w.heap.size w).alloc (Nat.le_refl _) _))⟩⟩))
  · exact Obl.call ⟨by kernel_rfl, by kernel_rfl, by kernel_rfl⟩ 11 #[.tmp 81] _ rfl Try.f11 Try.func11 (by kernel_rfl) (by kernel_rfl) (fun ev w hb hx => by
      obtain ⟨A81, c81, L81, e81, r81⟩ := rowC2_of (hx (.tmp 81)) (by kernel_rfl)
      simp only [List.map_toArray, List.map_cons, List.map_nil, e81]
      exact ((law6_same A81 2 c81 L81 w r81 (by omega))).mono fun _ _ hh => Val.holds (by kernel_rfl) hh)
  · exact Obl.pick trivial _ _ _ rfl true (by kernel_rfl) (by kernel_rfl)
  · exact Obl.move trivial _ (Or.inl rfl) (by kernel_rfl)
  · exact Obl.move ⟨by kernel_rfl, by kernel_rfl, by kernel_rfl⟩ _ (Or.inl rfl) (by kernel_rfl)
  · exact Obl.pure ⟨by kernel_rfl, by kernel_rfl, by kernel_rfl⟩ (.pointer (some ⟨P, 20, none⟩)) (by kernel_rfl) (fun ev w hb hx => by
      have e85 : ev (.tmp 85) = .slice (some ⟨P, 0, none⟩) 3 3 := holds_val (hx (.tmp 85)) (by kernel_rfl)
      have k0 : ev (.const (.int .i64 2)) = (.int .i64 2) := holds_val (hx (.const (.int .i64 2))) (by kernel_rfl)
      simp [execOp, e85, k0, go_sem])
  · exact Obl.pure ⟨by kernel_rfl, by kernel_rfl, by kernel_rfl⟩ (.agg #[.int .i64 x3.r.kind, .int .u32 (x3.r.src : Int), .int .u32 (x3.r.about : Int), .slice x3.At x3.r.tups.length x3.ct, .slice x3.Aa x3.r.abouts.length x3.ca, .slice x3.An x3.r.nums.length x3.cn, .int .u64 (x3.r.rate : Int), .int .i64 x3.r.ty, .int .i64 x3.r.count, .slice x3.Ab x3.r.body.length x3.cb]) (by kernel_rfl) (fun ev w hb hx => by
      have e86 : ev (.tmp 86) = .pointer (some ⟨P, 20, none⟩) := holds_val (hx (.tmp 86)) (by kernel_rfl)
      have hw := hB9P.below ((drew_below _).trans hb) hPl; have m0 := (hw.cell 20).trans rfl; have m1 := (hw.cell 21).trans rfl; have m2 := (hw.cell 22).trans rfl; have m3 := (hw.cell 23).trans rfl; have m4 := (hw.cell 24).trans rfl; have m5 := (hw.cell 25).trans rfl; have m6 := (hw.cell 26).trans rfl; have m7 := (hw.cell 27).trans rfl; have m8 := (hw.cell 28).trans rfl; have m9 := (hw.cell 29).trans rfl; simp [execOp, e86, go_sem, m0, m1, m2, m3, m4, m5, m6, m7, m8, m9])
  · exact Obl.move ⟨by kernel_rfl, by kernel_rfl, by kernel_rfl⟩ _ (Or.inl rfl) (by kernel_rfl)
  · exact Obl.pure ⟨by kernel_rfl, by kernel_rfl, by kernel_rfl⟩ (.pointer (some ⟨P, 0, none⟩)) (by kernel_rfl) (fun ev w hb hx => by
      have e88 : ev (.tmp 88) = .slice (some ⟨P, 0, none⟩) 3 3 := holds_val (hx (.tmp 88)) (by kernel_rfl)
      have k0 : ev (.const (.int .i64 0)) = (.int .i64 0) := holds_val (hx (.const (.int .i64 0))) (by kernel_rfl)
      simp [execOp, e88, k0, go_sem])
  · exact Obl.pure ⟨by kernel_rfl, by kernel_rfl, by kernel_rfl⟩ (.agg #[.int .i64 x1.r.kind, .int .u32 (x1.r.src : Int), .int .u32 (x1.r.about : Int), .slice x1.At x1.r.tups.length x1.ct, .slice x1.Aa x1.r.abouts.length x1.ca, .slice x1.An x1.r.nums.length x1.cn, .int .u64 (x1.r.rate : Int), .int .i64 x1.r.ty, .int .i64 x1.r.count, .slice x1.Ab x1.r.body.length x1.cb]) (by kernel_rfl) (fun ev w hb hx => by
      have e89 : ev (.tmp 89) = .pointer (some ⟨P, 0, none⟩) := holds_val (hx (.tmp 89)) (by kernel_rfl)
      have hw := hB9P.below ((drew_below _).trans hb) hPl; have m0 := (hw.cell 0).trans rfl; have m1 := (hw.cell 1).trans rfl; have m2 := (hw.cell 2).trans rfl; have m3 := (hw.cell 3).trans rfl; have m4 := (hw.cell 4).trans rfl; have m5 := (hw.cell 5).trans rfl; have m6 := (hw.cell 6).trans rfl; have m7 := (hw.cell 7).trans rfl; have m8 := (hw.cell 8).trans rfl; have m9 := (hw.cell 9).trans rfl; simp [execOp, e89, go_sem, m0, m1, m2, m3, m4, m5, m6, m7, m8, m9])
  · exact Obl.move ⟨by kernel_rfl, by kernel_rfl, by kernel_rfl⟩ _ (Or.inl rfl) (by kernel_rfl)
  · exact Obl.move ⟨by kernel_rfl, by kernel_rfl, by kernel_rfl⟩ _ (Or.inl rfl) (by kernel_rfl)
  · exact Obl.bin ⟨by kernel_rfl, by kernel_rfl, by kernel_rfl⟩ .and _ (.tmp 92) (.const (.int .i64 511)) _ rfl (.int .i64 nn) (.int .i64 511) (.int .i64 (bits BinOp.and .i64 nn 511)) (by kernel_rfl) (by kernel_rfl) (fun w => by simp [eqGuard, go_sem]) (by kernel_rfl)
  · exact Obl.call ⟨by kernel_rfl, by kernel_rfl, by kernel_rfl⟩ 12 #[.tmp 90, .tmp 91, .tmp 93] _ rfl Try.f12 Try.func12 (by kernel_rfl) (by kernel_rfl) (fun ev w hb hx => by
      have e90 : ev (.tmp 90) = .agg #[.int .i64 x1.r.kind, .int .u32 (x1.r.src : Int), .int .u32 (x1.r.about : Int), .slice x1.At x1.r.tups.length x1.ct, .slice x1.Aa x1.r.abouts.length x1.ca, .slice x1.An x1.r.nums.length x1.cn, .int .u64 (x1.r.rate : Int), .int .i64 x1.r.ty, .int .i64 x1.r.count, .slice x1.Ab x1.r.body.length x1.cb] := holds_val (hx (.tmp 90)) (by kernel_rfl)
      have e91 : ev (.tmp 91) = .int .i64 what := holds_val (hx (.tmp 91)) (by kernel_rfl)
      have e93 : ev (.tmp 93) = .int .i64 (bits BinOp.and .i64 nn 511) := holds_val (hx (.tmp 93)) (by kernel_rfl)
      simp only [List.map_toArray, List.map_cons, List.map_nil, e90, e91, e93]
      exact ((show Calls _ _ #[.agg #[.int .i64 x1.r.kind, .int .u32 (x1.r.src : Int), .int .u32 (x1.r.about : Int), .slice x1.At x1.r.tups.length x1.ct, .slice x1.Aa x1.r.abouts.length x1.ca, .slice x1.An x1.r.nums.length x1.cn, .int .u64 (x1.r.rate : Int), .int .i64 x1.r.ty, .int .i64 x1.r.count, .slice x1.Ab x1.r.body.length x1.cb], .int .i64 what, .int .i64 (bits BinOp.and .i64 nn 511)] _ _ from odd_c x1 what (bits BinOp.and .i64 nn 511) w (hI1.on ((drew_below _).trans hb)) hwhat (i64_bits6 _ _ _) hsm)).mono fun _ _ hh => rvC_ret (by kernel_rfl) hh)
  · exact Obl.act ⟨by kernel_rfl, by kernel_rfl, by kernel_rfl⟩ (fun ev w hb hx => by
      have e87 : ev (.tmp 87) = .agg #[.int .i64 x3.r.kind, .int .u32 (x3.r.src : Int), .int .u32 (x3.r.about : Int), .slice x3.At x3.r.tups.length x3.ct, .slice x3.Aa x3.r.abouts.length x3.ca, .slice x3.An x3.r.nums.length x3.cn, .int .u64 (x3.r.rate : Int), .int .i64 x3.r.ty, .int .i64 x3.r.count, .slice x3.Ab x3.r.body.length x3.cb] := holds_val (hx (.tmp 87)) (by kernel_rfl)
      obtain ⟨y94, e94, i94⟩ := rvC_of (hx (.tmp 94)) (by kernel_rfl)
      (exact ⟨.slice (some ⟨w.heap.size, 0, none⟩) 2 2, w.alloc (.cells ((cellsR [x3, y94]).toArray) 33), (by simp [execOp, e87, e94, go_sem, Rv.val, Rv.cells]; rfl), (Below.refl _ _).alloc (Nat.le_refl _) _, rowC_mk (n := 2) (by kernel_rfl) ⟨_, 2, [x3, y94], rfl, rr_block (Blk.new _ _ _) rfl rfl (fun u hu => by simp only [List.mem_cons, List.not_mem_nil, or_false] at hu; rcases hu with rfl | rfl <;> first | exact i94.on ((Below.refl w.heap.size w).alloc (Nat.le_refl _) _) | exact (hI3.on ((drew_below _).trans hb)).on ((Below.refl w.heap.size w).alloc (Nat.le_refl _) _))⟩⟩))
  · exact Obl.call ⟨by kernel_rfl, by kernel_rfl, by kernel_rfl⟩ 11 #[.tmp 95] _ rfl Try.f11 Try.func11 (by kernel_rfl) (by kernel_rfl) (fun ev w hb hx => by
      obtain ⟨A95, c95, L95, e95, r95⟩ := rowC2_of (hx (.tmp 95)) (by kernel_rfl)
      simp only [List.map_toArray, List.map_cons, List.map_nil, e95]
      exact ((law6_same A95 2 c95 L95 w r95 (by omega))).mono fun _ _ hh => Val.holds (by kernel_rfl) hh)
  · exact Obl.pick trivial _ _ _ rfl true (by kernel_rfl) (by kernel_rfl)
  · exact Obl.move trivial _ (Or.inl rfl) (by kernel_rfl)
  · exact Obl.pure ⟨by kernel_rfl, by kernel_rfl, by kernel_rfl⟩ (.agg #[.int .i64 y.r.kind, .int .u32 (y.r.src : Int), .int .u32 (y.r.about : Int), .slice y.At y.r.tups.length y.ct, .slice y.Aa y.r.abouts.length y.ca, .slice y.An y.r.nums.length y.cn, .int .u64 (y.r.rate : Int), .int .i64 y.r.ty, .int .i64 y.r.count, .slice y.Ab y.r.body.length y.cb]) (by kernel_rfl) (fun ev w hb hx => by
      have e10 : ev (.tmp 10) = .pointer (some ⟨R0, 0, none⟩) := holds_val (hx (.tmp 10)) (by kernel_rfl)
      have hw := hQ9.below ((drew_below _).trans hb) hQl; have m0 := (hw.cell 0).trans rfl; have m1 := (hw.cell 1).trans rfl; have m2 := (hw.cell 2).trans rfl; have m3 := (hw.cell 3).trans rfl; have m4 := (hw.cell 4).trans rfl; have m5 := (hw.cell 5).trans rfl; have m6 := (hw.cell 6).trans rfl; have m7 := (hw.cell 7).trans rfl; have m8 := (hw.cell 8).trans rfl; have m9 := (hw.cell 9).trans rfl; simp [execOp, e10, go_sem, m0, m1, m2, m3, m4, m5, m6, m7, m8, m9])
  · exact Obl.act ⟨by kernel_rfl, by kernel_rfl, by kernel_rfl⟩ (fun ev w hb hx => by
      have e99 : ev (.tmp 99) = .agg #[.int .i64 y.r.kind, .int .u32 (y.r.src : Int), .int .u32 (y.r.about : Int), .slice y.At y.r.tups.length y.ct, .slice y.Aa y.r.abouts.length y.ca, .slice y.An y.r.nums.length y.cn, .int .u64 (y.r.rate : Int), .int .i64 y.r.ty, .int .i64 y.r.count, .slice y.Ab y.r.body.length y.cb] := holds_val (hx (.tmp 99)) (by kernel_rfl)
      (exact ⟨.slice (some ⟨w.heap.size, 0, none⟩) 1 1, w.alloc (.cells (cellsR [y]).toArray 33), by simp [execOp, e99, go_sem, cellsR, Rv.cells], (Below.refl _ _).alloc (Nat.le_refl _) _, rowC_mk (n := 1) (by kernel_rfl) ⟨_, 1, [y], rfl, rr_block (Blk.new _ _ _) rfl rfl (fun u hu => by rw [List.mem_singleton.1 hu]; exact (hIy.on ((drew_below _).trans hb)).on ((Below.refl w.heap.size w).alloc (Nat.le_refl _) _))⟩⟩))
  · exact Obl.call ⟨by kernel_rfl, by kernel_rfl, by kernel_rfl⟩ 11 #[.tmp 100] _ rfl Try.f11 Try.func11 (by kernel_rfl) (by kernel_rfl) (fun ev w hb hx => by
      obtain ⟨A100, c100, L100, e100, r100⟩ := rowC1_of (hx (.tmp 100)) (by kernel_rfl)
      simp only [List.map_toArray, List.map_cons, List.map_nil, e100]
      exact ((law6_same A100 1 c100 L100 w r100 (by omega))).mono fun _ _ hh => Val.holds (by kernel_rfl) hh)
  · exact Obl.pick trivial _ _ _ rfl true (by kernel_rfl) (by kernel_rfl)
  · exact Obl.move trivial _ (Or.inl rfl) (by kernel_rfl)
  · exact Obl.move ⟨by kernel_rfl, by kernel_rfl, by kernel_rfl⟩ _ (Or.inl rfl) (by kernel_rfl)
  · exact Obl.call ⟨by kernel_rfl, by kernel_rfl, by kernel_rfl⟩ 14 #[.tmp 104] _ rfl Try.f14 Try.func14 (by kernel_rfl) (by kernel_rfl) (fun ev w hb hx => by
      have e104 : ev (.tmp 104) = .slice (some ⟨g3, 0, none⟩) L x5 := holds_val (hx (.tmp 104)) (by kernel_rfl)
      simp only [List.map_toArray, List.map_cons, List.map_nil, e104]
      exact ((law6_reads _ _ _ lx w (hx9.on ((drew_below _).trans hb)) (by omega))).mono fun _ _ hh => Val.holds (by kernel_rfl) hh)
  · exact Obl.pick trivial _ _ _ rfl true (by kernel_rfl) (by kernel_rfl)
  · exact Obl.move trivial _ (Or.inl rfl) (by kernel_rfl)
  · exact Obl.move ⟨by kernel_rfl, by kernel_rfl, by kernel_rfl⟩ _ (Or.inl rfl) (by kernel_rfl)
  · exact Obl.call ⟨by kernel_rfl, by kernel_rfl, by kernel_rfl⟩ 14 #[.tmp 108] _ rfl Try.f14 Try.func14 (by kernel_rfl) (by kernel_rfl) (fun ev w hb hx => by
      have e108 : ev (.tmp 108) = .slice Ab nb cb := holds_val (hx (.tmp 108)) (by kernel_rfl)
      simp only [List.map_toArray, List.map_cons, List.map_nil, e108]
      exact ((law6_reads _ _ _ lb w (hB9.on ((drew_below _).trans hb)) (by omega))).mono fun _ _ hh => Val.holds (by kernel_rfl) hh)
  · exact Obl.pick trivial _ _ _ rfl true (by kernel_rfl) (by kernel_rfl)
  · exact Obl.move trivial _ (Or.inl rfl) (by kernel_rfl)
  · exact Obl.move ⟨by kernel_rfl, by kernel_rfl, by kernel_rfl⟩ _ (Or.inl rfl) (by kernel_rfl)
  · exact Obl.bin ⟨by kernel_rfl, by kernel_rfl, by kernel_rfl⟩ .and _ (.tmp 112) (.const (.int .u8 31)) _ rfl (.int .u8 turn) (.int .u8 31) (.int .u8 (bits BinOp.and .u8 turn 31)) (by kernel_rfl) (by kernel_rfl) (fun w => by simp [eqGuard, go_sem]) (by kernel_rfl)
  · exact Obl.bin ⟨by kernel_rfl, by kernel_rfl, by kernel_rfl⟩ .or _ (.const (.int .u8 128)) (.tmp 113) _ rfl (.int .u8 128) (.int .u8 (bits BinOp.and .u8 turn 31)) (.int .u8 (y8.toNat : Int)) (by kernel_rfl) (by kernel_rfl) (fun w => by have := HY8.out; simp [eqGuard, go_sem]; exact this) (by kernel_rfl)
  · exact Obl.move ⟨by kernel_rfl, by kernel_rfl, by kernel_rfl⟩ _ (Or.inl rfl) (by kernel_rfl)
  · exact Obl.lenV (x := (.tmp 115)) ⟨by kernel_rfl, by kernel_rfl, by kernel_rfl⟩ _ _ Try.underlying31 rfl (Ab) (nb) (cb) (by kernel_rfl) (by kernel_rfl)
  · exact Obl.bin ⟨by kernel_rfl, by kernel_rfl, by kernel_rfl⟩ .quo _ (.tmp 116) (.const (.int .i64 4)) _ rfl (.int .i64 (nb : Nat)) (.int .i64 4) (.int .i64 (nb / 4 : Nat)) (by kernel_rfl) (by kernel_rfl) (quo_4 nb _ _ hnb) (by kernel_rfl)
  · exact Obl.conv ⟨by kernel_rfl, by kernel_rfl, by kernel_rfl⟩ _ _ (.tmp 117) rfl (.int .i64 (nb / 4 : Nat)) (.int .u8 (y9.toNat : Int)) (by kernel_rfl) hy9 (by kernel_rfl)
  · exact Obl.act ⟨by kernel_rfl, by kernel_rfl, by kernel_rfl⟩ (fun ev w hb hx => by
      have e114 : ev (.tmp 114) = .int .u8 (y8.toNat : Int) := holds_val (hx (.tmp 114)) (by kernel_rfl)
      have e118 : ev (.tmp 118) = .int .u8 (y9.toNat : Int) := holds_val (hx (.tmp 118)) (by kernel_rfl)
      (have k5 : ev (.const (.int .u8 205)) = .int .u8 205 := holds_val (hx (.const (.int .u8 205))) (by kernel_rfl); have k6 : ev (.const (.int .u8 0)) = .int .u8 0 := holds_val (hx (.const (.int .u8 0))) (by kernel_rfl); exact ⟨.slice (some ⟨w.heap.size, 0, none⟩) 4 4, w.alloc (.cells #[.int .u8 (y8.toNat : Int), .int .u8 205, .int .u8 0, .int .u8 (y9.toNat : Int)] 5), by simp [execOp, e114, e118, k5, k6, go_sem], (Below.refl _ _).alloc (Nat.le_refl _) _, fourC_mk (l := [y8, 205, 0, y9]) (by kernel_rfl) ⟨w.heap.size, rfl, Blk.new _ _ _⟩⟩))
  · exact Obl.move ⟨by kernel_rfl, by kernel_rfl, by kernel_rfl⟩ _ (Or.inl rfl) (by kernel_rfl)
  · exact Obl.move ⟨by kernel_rfl, by kernel_rfl, by kernel_rfl⟩ _ (Or.inl rfl) (by kernel_rfl)
  · exact Obl.lenV (x := (.tmp 121)) ⟨by kernel_rfl, by kernel_rfl, by kernel_rfl⟩ _ _ Try.underlying31 rfl (Ab) (nb) (cb) (by kernel_rfl) (by kernel_rfl)
  · exact Obl.bin ⟨by kernel_rfl, by kernel_rfl, by kernel_rfl⟩ .quo _ (.tmp 122) (.const (.int .i64 4)) _ rfl (.int .i64 (nb : Nat)) (.int .i64 4) (.int .i64 (nb / 4 : Nat)) (by kernel_rfl) (by kernel_rfl) (quo_4 nb _ _ hnb) (by kernel_rfl)
  · exact Obl.bin ⟨by kernel_rfl, by kernel_rfl, by kernel_rfl⟩ .mul _ (.tmp 123) (.const (.int .i64 4)) _ rfl (.int .i64 (nb / 4 : Nat)) (.int .i64 4) (.int .i64 (nb / 4 * 4 : Nat)) (by kernel_rfl) (by kernel_rfl) (mul_4n nb _ _ hnb) (by kernel_rfl)
  · exact Obl.cutH ⟨by kernel_rfl, by kernel_rfl, by kernel_rfl⟩ _ (.tmp 120) (.tmp 124) rfl (.slice Ab nb cb) (.int .i64 (nb / 4 * 4 : Nat)) (.slice Ab (nb / 4 * 4) cb) (by kernel_rfl) (by kernel_rfl) (cut_hT _ _ _ _ (by omega) hBc) (by kernel_rfl)
  · exact Obl.act ⟨by kernel_rfl, by kernel_rfl, by kernel_rfl⟩ (fun ev w hb hx => by
      obtain ⟨g119, e119, k119⟩ := fourC_of (hx (.tmp 119)) (by kernel_rfl)
      have e125 : ev (.tmp 125) = .slice Ab (nb / 4 * 4) cb := holds_val (hx (.tmp 125)) (by kernel_rfl)
      (obtain ⟨v', w', A', n', c', hrun, hb', hv', hr'⟩ := run_ahead6 w g119 [y8, 205, 0, y9] rfl k119 Ab (nb / 4 * 4) cb lk (hBK.on ((drew_below _).trans hb)) (by omega) 31; exact ⟨v', w', by simp [execOp, resolve, invoke, builtin, e119, e125, hrun], hb', octC_mk (l := [y8, 205, 0, y9] ++ lk) (by kernel_rfl) ⟨A', n', c', hv', hr'⟩⟩))
  · exact Obl.call ⟨by kernel_rfl, by kernel_rfl, by kernel_rfl⟩ 14 #[.tmp 126] _ rfl Try.f14 Try.func14 (by kernel_rfl) (by kernel_rfl) (fun ev w hb hx => by
      obtain ⟨A126, n126, c126, e126, r126⟩ := octC_of (hx (.tmp 126)) (by kernel_rfl)
      simp only [List.map_toArray, List.map_cons, List.map_nil, e126]
      exact ((law6_reads A126 n126 c126 ([y8, 205, 0, y9] ++ lk) w r126 (by have := r126.1; have := hBK.1; simp at *; omega))).mono fun _ _ hh => Val.holds (by kernel_rfl) hh)
  · exact Obl.pick trivial _ _ _ rfl true (by kernel_rfl) (by kernel_rfl)
  · exact Obl.move trivial _ (Or.inl rfl) (by kernel_rfl)
  · exact Obl.move ⟨by kernel_rfl, by kernel_rfl, by kernel_rfl⟩ _ (Or.inl rfl) (by kernel_rfl)
  · exact Obl.pure ⟨by kernel_rfl, by kernel_rfl, by kernel_rfl⟩ (.pointer (some ⟨P, 0, none⟩)) (by kernel_rfl) (fun ev w hb hx => by
      have e130 : ev (.tmp 130) = .slice (some ⟨P, 0, none⟩) 3 3 := holds_val (hx (.tmp 130)) (by kernel_rfl)
      have k0 : ev (.const (.int .i64 0)) = (.int .i64 0) := holds_val (hx (.const (.int .i64 0))) (by kernel_rfl)
      simp [execOp, e130, k0, go_sem])
  · exact Obl.pure ⟨by kernel_rfl, by kernel_rfl, by kernel_rfl⟩ (.agg #[.int .i64 x1.r.kind, .int .u32 (x1.r.src : Int), .int .u32 (x1.r.about : Int), .slice x1.At x1.r.tups.length x1.ct, .slice x1.Aa x1.r.abouts.length x1.ca, .slice x1.An x1.r.nums.length x1.cn, .int .u64 (x1.r.rate : Int), .int .i64 x1.r.ty, .int .i64 x1.r.count, .slice x1.Ab x1.r.body.length x1.cb]) (by kernel_rfl) (fun ev w hb hx => by
      have e131 : ev (.tmp 131) = .pointer (some ⟨P, 0, none⟩) := holds_val (hx (.tmp 131)) (by kernel_rfl)
      have hw := hB9P.below ((drew_below _).trans hb) hPl; have m0 := (hw.cell 0).trans rfl; have m1 := (hw.cell 1).trans rfl; have m2 := (hw.cell 2).trans rfl; have m3 := (hw.cell 3).trans rfl; have m4 := (hw.cell 4).trans rfl; have m5 := (hw.cell 5).trans rfl; have m6 := (hw.cell 6).trans rfl; have m7 := (hw.cell 7).trans rfl; have m8 := (hw.cell 8).trans rfl; have m9 := (hw.cell 9).trans rfl; simp [execOp, e131, go_sem, m0, m1, m2, m3, m4, m5, m6, m7, m8, m9])
  · exact Obl.pure ⟨by kernel_rfl, by kernel_rfl, by kernel_rfl⟩ (.agg #[.int .i64 y.r.kind, .int .u32 (y.r.src : Int), .int .u32 (y.r.about : Int), .slice y.At y.r.tups.length y.ct, .slice y.Aa y.r.abouts.length y.ca, .slice y.An y.r.nums.length y.cn, .int .u64 (y.r.rate : Int), .int .i64 y.r.ty, .int .i64 y.r.count, .slice y.Ab y.r.body.length y.cb]) (by kernel_rfl) (fun ev w hb hx => by
      have e10 : ev (.tmp 10) = .pointer (some ⟨R0, 0, none⟩) := holds_val (hx (.tmp 10)) (by kernel_rfl)
      have hw := hQ9.below ((drew_below _).trans hb) hQl; have m0 := (hw.cell 0).trans rfl; have m1 := (hw.cell 1).trans rfl; have m2 := (hw.cell 2).trans rfl; have m3 := (hw.cell 3).trans rfl; have m4 := (hw.cell 4).trans rfl; have m5 := (hw.cell 5).trans rfl; have m6 := (hw.cell 6).trans rfl; have m7 := (hw.cell 7).trans rfl; have m8 := (hw.cell 8).trans rfl; have m9 := (hw.cell 9).trans rfl; simp [execOp, e10, go_sem, m0, m1, m2, m3, m4, m5, m6, m7, m8, m9])
  · exact Obl.call ⟨by kernel_rfl, by kernel_rfl, by kernel_rfl⟩ 17 #[.tmp 132, .tmp 133] _ rfl Try.f17 Try.func17 (by kernel_rfl) (by kernel_rfl) (fun ev w hb hx => by
      have e132 : ev (.tmp 132) = .agg #[.int .i64 x1.r.kind, .int .u32 (x1.r.src : Int), .int .u32 (x1.r.about : Int), .slice x1.At x1.r.tups.length x1.ct, .slice x1.Aa x1.r.abouts.length x1.ca, .slice x1.An x1.r.nums.length x1.cn, .int .u64 (x1.r.rate : Int), .int .i64 x1.r.ty, .int .i64 x1.r.count, .slice x1.Ab x1.r.body.length x1.cb] := holds_val (hx (.tmp 132)) (by kernel_rfl)
      have e133 : ev (.tmp 133) = .agg #[.int .i64 y.r.kind, .int .u32 (y.r.src : Int), .int .u32 (y.r.about : Int), .slice y.At y.r.tups.length y.ct, .slice y.Aa y.r.abouts.length y.ca, .slice y.An y.r.nums.length y.cn, .int .u64 (y.r.rate : Int), .int .i64 y.r.ty, .int .i64 y.r.count, .slice y.Ab y.r.body.length y.cb] := holds_val (hx (.tmp 133)) (by kernel_rfl)
      simp only [List.map_toArray, List.map_cons, List.map_nil, e132, e133]
      exact ((show Calls _ _ #[.agg #[.int .i64 x1.r.kind, .int .u32 (x1.r.src : Int), .int .u32 (x1.r.about : Int), .slice x1.At x1.r.tups.length x1.ct, .slice x1.Aa x1.r.abouts.length x1.ca, .slice x1.An x1.r.nums.length x1.cn, .int .u64 (x1.r.rate : Int), .int .i64 x1.r.ty, .int .i64 x1.r.count, .slice x1.Ab x1.r.body.length x1.cb], .agg #[.int .i64 y.r.kind, .int .u32 (y.r.src : Int), .int .u32 (y.r.about : Int), .slice y.At y.r.tups.length y.ct, .slice y.Aa y.r.abouts.length y.ca, .slice y.An y.r.nums.length y.cn, .int .u64 (y.r.rate : Int), .int .i64 y.r.ty, .int .i64 y.r.count, .slice y.Ab y.r.body.length y.cb]] _ _ from hS1 w (hI1.on ((drew_below _).trans hb)) (hIy.on ((drew_below _).trans hb)))).mono fun _ _ hh => Val.holds (by kernel_rfl) hh)
  · exact Obl.move ⟨by kernel_rfl, by kernel_rfl, by kernel_rfl⟩ _ (Or.inl rfl) (by kernel_rfl)
  · exact Obl.pure ⟨by kernel_rfl, by kernel_rfl, by kernel_rfl⟩ (.pointer (some ⟨P, 0, none⟩)) (by kernel_rfl) (fun ev w hb hx => by
      have e135 : ev (.tmp 135) = .slice (some ⟨P, 0, none⟩) 3 3 := holds_val (hx (.tmp 135)) (by kernel_rfl)
      have k0 : ev (.const (.int .i64 0)) = (.int .i64 0) := holds_val (hx (.const (.int .i64 0))) (by kernel_rfl)
      simp [execOp, e135, k0, go_sem])
  · exact Obl.pure ⟨by kernel_rfl, by kernel_rfl, by kernel_rfl⟩ (.agg #[.int .i64 x1.r.kind, .int .u32 (x1.r.src : Int), .int .u32 (x1.r.about : Int), .slice x1.At x1.r.tups.length x1.ct, .slice x1.Aa x1.r.abouts.length x1.ca, .slice x1.An x1.r.nums.length x1.cn, .int .u64 (x1.r.rate : Int), .int .i64 x1.r.ty, .int .i64 x1.r.count, .slice x1.Ab x1.r.body.length x1.cb]) (by kernel_rfl) (fun ev w hb hx => by
      have e136 : ev (.tmp 136) = .pointer (some ⟨P, 0, none⟩) := holds_val (hx (.tmp 136)) (by kernel_rfl)
      have hw := hB9P.below ((drew_below _).trans hb) hPl; have m0 := (hw.cell 0).trans rfl; have m1 := (hw.cell 1).trans rfl; have m2 := (hw.cell 2).trans rfl; have m3 := (hw.cell 3).trans rfl; have m4 := (hw.cell 4).trans rfl; have m5 := (hw.cell 5).trans rfl; have m6 := (hw.cell 6).trans rfl; have m7 := (hw.cell 7).trans rfl; have m8 := (hw.cell 8).trans rfl; have m9 := (hw.cell 9).trans rfl; simp [execOp, e136, go_sem, m0, m1, m2, m3, m4, m5, m6, m7, m8, m9])
  · exact Obl.pure ⟨by kernel_rfl, by kernel_rfl, by kernel_rfl⟩ (.agg #[.int .i64 y.r.kind, .int .u32 (y.r.src : Int), .int .u32 (y.r.about : Int), .slice y.At y.r.tups.length y.ct, .slice y.Aa y.r.abouts.length y.ca, .slice y.An y.r.nums.length y.cn, .int .u64 (y.r.rate : Int), .int .i64 y.r.ty, .int .i64 y.r.count, .slice y.Ab y.r.body.length y.cb]) (by kernel_rfl) (fun ev w hb hx => by
      have e10 : ev (.tmp 10) = .pointer (some ⟨R0, 0, none⟩) := holds_val (hx (.tmp 10)) (by kernel_rfl)
      have hw := hQ9.below ((drew_below _).trans hb) hQl; have m0 := (hw.cell 0).trans rfl; have m1 := (hw.cell 1).trans rfl; have m2 := (hw.cell 2).trans rfl; have m3 := (hw.cell 3).trans rfl; have m4 := (hw.cell 4).trans rfl; have m5 := (hw.cell 5).trans rfl; have m6 := (hw.cell 6).trans rfl; have m7 := (hw.cell 7).trans rfl; have m8 := (hw.cell 8).trans rfl; have m9 := (hw.cell 9).trans rfl; simp [execOp, e10, go_sem, m0, m1, m2, m3, m4, m5, m6, m7, m8, m9])
  · exact Obl.call ⟨by kernel_rfl, by kernel_rfl, by kernel_rfl⟩ 18 #[.tmp 137, .tmp 138] _ rfl Try.f18 Try.func18 (by kernel_rfl) (by kernel_rfl) (fun ev w hb hx => by
      have e137 : ev (.tmp 137) = .agg #[.int .i64 x1.r.kind, .int .u32 (x1.r.src : Int), .int .u32 (x1.r.about : Int), .slice x1.At x1.r.tups.length x1.ct, .slice x1.Aa x1.r.abouts.length x1.ca, .slice x1.An x1.r.nums.length x1.cn, .int .u64 (x1.r.rate : Int), .int .i64 x1.r.ty, .int .i64 x1.r.count, .slice x1.Ab x1.r.body.length x1.cb] := holds_val (hx (.tmp 137)) (by kernel_rfl)
      have e138 : ev (.tmp 138) = .agg #[.int .i64 y.r.kind, .int .u32 (y.r.src : Int), .int .u32 (y.r.about : Int), .slice y.At y.r.tups.length y.ct, .slice y.Aa y.r.abouts.length y.ca, .slice y.An y.r.nums.length y.cn, .int .u64 (y.r.rate : Int), .int .i64 y.r.ty, .int .i64 y.r.count, .slice y.Ab y.r.body.length y.cb] := holds_val (hx (.tmp 138)) (by kernel_rfl)
      simp only [List.map_toArray, List.map_cons, List.map_nil, e137, e138]
      exact ((show Calls _ _ #[.agg #[.int .i64 x1.r.kind, .int .u32 (x1.r.src : Int), .int .u32 (x1.r.about : Int), .slice x1.At x1.r.tups.length x1.ct, .slice x1.Aa x1.r.abouts.length x1.ca, .slice x1.An x1.r.nums.length x1.cn, .int .u64 (x1.r.rate : Int), .int .i64 x1.r.ty, .int .i64 x1.r.count, .slice x1.Ab x1.r.body.length x1.cb], .agg #[.int .i64 y.r.kind, .int .u32 (y.r.src : Int), .int .u32 (y.r.about : Int), .slice y.At y.r.tups.length y.ct, .slice y.Aa y.r.abouts.length y.ca, .slice y.An y.r.nums.length y.cn, .int .u64 (y.r.rate : Int), .int .i64 y.r.ty, .int .i64 y.r.count, .slice y.Ab y.r.body.length y.cb]] _ _ from hS2 w (hI1.on ((drew_below _).trans hb)) (hIy.on ((drew_below _).trans hb)))).mono fun _ _ hh => Val.holds (by kernel_rfl) hh)
  · exact Obl.bin ⟨by kernel_rfl, by kernel_rfl, by kernel_rfl⟩ .eql _ (.tmp 134) (.tmp 139) _ rfl (.bool D) (.bool D) (.bool true) (by kernel_rfl) (by kernel_rfl) (fun w => by simp [eqGuard, go_sem]) (by kernel_rfl)
  · exact Obl.pick trivial _ _ _ rfl true (by kernel_rfl) (by kernel_rfl)
  · exact Obl.move trivial _ (Or.inl rfl) (by kernel_rfl)
  · exact Obl.call ⟨by kernel_rfl, by kernel_rfl, by kernel_rfl⟩ 15 #[] _ rfl Try.f15 Try.func15 (by kernel_rfl) (by kernel_rfl) (fun ev w hb hx => by
      simp only [List.map_toArray, List.map_nil]
      exact ((known6 w)).mono fun _ _ hh => Val.holds (by kernel_rfl) hh)
  · exact Obl.pick trivial _ _ _ rfl true (by kernel_rfl) (by kernel_rfl)
  · exact Obl.move trivial _ (Or.inr rfl) (by kernel_rfl)
  intro a w4 hb hsz hdf hold hv
  have h14 : a.tmps.getD 14 undef = .bool true := holds_val (hv 76 14 (by kernel_rfl)) (by kernel_rfl)
  obtain ⟨tm, df⟩ := a
  have hdf' : df = [] := hdf
  subst hdf'
  have b9 : Below z.heap.size z W9 := HR0.out.symm ▸ b9h
  go_wp2
  go_ret
  exact ⟨congrArg _ h14, b9.drew.trans (hb.mono b9.size)⟩
end Go.Proofs.Ytnchgmemajmkjaa.RP
