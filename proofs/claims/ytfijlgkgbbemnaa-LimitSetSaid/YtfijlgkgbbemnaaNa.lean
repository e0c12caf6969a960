/- Rows of elements of k cells: copy, clear, cuts of the cells. No program's function. The project's rows (a tuple and until when) in memory. No program's function. The project's limit in memory; contracts: New, Remb, place, Tuples, what Tick asks of a row. Contracts of the project's limit: place, Tuples. -/
import Derived.Test.YtfijlgkgbbemnaaRx
import Derived.Laws.CopyOwn
import Derived.Lib.SliceRun
import Derived.Test.YtfijlgkgbbemnaaLmV
import Derived.BigQuiet
import Derived.Deep.QuietTactic
namespace Go.Proofs.Ytfijlgkgbbemnaa
open Go.RowKit
set_option linter.unusedVariables false
set_option linter.unusedSimpArgs false
set_option maxRecDepth 20000

/-- copy of m elements of k cells into a row that is known whole. -/
theorem run_copyK {P : Program} (w : World) (dT sT ty elem : TypeId) (g o dLen dCap : Nat) (a : Addr) (sLen sCap : Nat) (cur : Array Value) (t : TypeId) (cs : List Value) (k m : Nat)
    (hu : P.underlying dT = some (.slice elem)) (hs : (P.info? elem).map (·.size) = some k)
    (hg : w.heap[g]? = some (.cells cur t (0, 0))) (hm : m = Nat.min sLen dLen) (hn : cs.length = m * k)
    (hsrc : ∀ j v, cs[j]? = some v → w.cell? (a.add j) = some v) (hfit : o + cs.length ≤ cur.size) (h1 : ∀ v ∈ cs, v.oneCell' = true) :
    (Builtin.copy_ #[dT, sT] ty #[.slice (some ⟨g, o, none⟩) dLen dCap, .slice (some a) sLen sCap]).run P w =
      .ok (goInt m) (w.setRow g (cur.toList.take o ++ cs ++ cur.toList.drop (o + cs.length)).toArray) := by
  have hl := run_loadCells_list (P := P) w a cs hsrc
  have hst := run_storeCells_at P g o t cs 0 cur w hg (by simpa using hfit) h1
  cases hq : P.info? elem with
  | none => simp [hq] at hs
  | some i =>
    have hi : i.size = k := by simpa [hq] using hs
    rw [hn] at hl
    simp [Builtin.copy_, run_underlying hu, Builtin.lenOf, Builtin.firstCells, sizeOf, typeInfo, hq, hi, ← hm, hl, hst]
/-- The step of such a copy in a region that draws; and as the walk's own. -/
theorem step_copyR {P : Program} {ops : Array Oper} {o : Oper} {a : Act} {w : World} {K : Act → World → Prop} {Q : Exit → Act → World → Prop} {E : Prop} (hg : o.guard = none) (d x : Operand) (dT sT : TypeId)
    (ho : o.op = .call { callee := .builtin .copy, args := #[d, x], argTypes := #[dT, sT] }) (v u : Value) (hd : a.eval d = v) (hx : a.eval x = u) {v' : Value} {w' : World}
    (hr : (Builtin.copy_ #[dT, sT] o.type #[v, u]).run P w = .ok v' w') (hK : K (a.put o.dst v') w') : if Region.wanted o (yielded ops a.tmps) = true then Oper.wp P o a w K Q else E := by
  have hw : Region.wanted o (yielded ops a.tmps) = true := by simp [Region.wanted, hg]
  rw [if_pos hw]
  unfold Oper.wp
  simp [execOp, ho, resolve, invoke, builtin, hd, hx, hr, Result.andThen]
  exact hK
theorem wpList_copyR {P : Program} {w : World} {ops : Array Oper} {rest : List Oper} {o : Oper} {a : Act} {Q : Exit → Act → World → Prop} (hgd : o.guard = none) (d x : Operand) (dT sT : TypeId)
    (ho : o.op = .call { callee := .builtin .copy, args := #[d, x], argTypes := #[dT, sT] }) (v u : Value) (hd : a.eval d = v) (hx : a.eval x = u) {v' : Value} {w' : World}
    (hr : (Builtin.copy_ #[dT, sT] o.type #[v, u]).run P w = .ok v' w') (h : wpList P ops Q rest (a.put o.dst v') w') : wpList P ops Q (o :: rest) a w :=
  wpList_plain hgd fun K hK => by
    unfold Oper.wp execOp
    simp only [ho, resolve, invoke, builtin, Sem.run_bind, Sem.run_pure, Result.andThen_ok, List.map_toArray, List.map_cons, List.map_nil, hd, hx, hr]
    exact hK _ _ h
theorem wpList_appendR {P : Program} {w : World} {ops : Array Oper} {rest : List Oper} {o : Oper} {a : Act} {Q : Exit → Act → World → Prop} (hgd : o.guard = none) (d x : Operand) (dT sT : TypeId)
    (ho : o.op = .call { callee := .builtin .append, args := #[d, x], argTypes := #[dT, sT] }) (v u : Value) (hd : a.eval d = v) (hx : a.eval x = u) {v' : Value} {w' : World}
    (hr : (Builtin.append_ #[dT, sT] o.type #[v, u]).run P w = .ok v' w') (h : wpList P ops Q rest (a.put o.dst v') w') : wpList P ops Q (o :: rest) a w :=
  wpList_plain hgd fun K hK => by
    unfold Oper.wp execOp
    simp only [ho, resolve, invoke, builtin, Sem.run_bind, Sem.run_pure, Result.andThen_ok, List.map_toArray, List.map_cons, List.map_nil, hd, hx, hr]
    exact hK _ _ h
/-- clear of m elements whose zero value's cells are zs. -/
theorem run_clearK {P : Program} (w : World) (t e ty : TypeId) (z : Value) (ht : P.underlying t = some (.slice e)) (hv : ∀ w, (zeroValue e).run P w = .ok z w) (g o m c : Nat) (hm : 0 < m) (cur : Array Value) (te : TypeId)
    (hg : w.heap[g]? = some (.cells cur te (0, 0))) (hfit : o + (Builtin.zeroCells z.cells m).toList.length ≤ cur.size) (h1 : ∀ v ∈ (Builtin.zeroCells z.cells m).toList, v.oneCell' = true) :
    (Builtin.clear_ #[t] ty #[.slice (some ⟨g, o, none⟩) m c]).run P w = .ok (.tuple #[]) (w.setRow g (cur.toList.take o ++ (Builtin.zeroCells z.cells m).toList ++ cur.toList.drop (o + (Builtin.zeroCells z.cells m).toList.length)).toArray) := by
  have hst := run_storeCells_at P g o te (Builtin.zeroCells z.cells m).toList 0 cur w hg (by simpa using hfit) h1
  obtain ⟨n, rfl⟩ : ∃ n, m = n + 1 := ⟨m - 1, by omega⟩
  simp only [Nat.add_zero] at hst
  simp [Builtin.clear_, run_underlying ht, hv, hst]
theorem wpList_clearR {P : Program} {w : World} {ops : Array Oper} {rest : List Oper} {o : Oper} {a : Act} {Q : Exit → Act → World → Prop} (hgd : o.guard = none) (d : Operand) (dT : TypeId)
    (ho : o.op = .call { callee := .builtin .clear, args := #[d], argTypes := #[dT] }) (v : Value) (hd : a.eval d = v) {v' : Value} {w' : World}
    (hr : (Builtin.clear_ #[dT] o.type #[v]).run P w = .ok v' w') (h : wpList P ops Q rest (a.put o.dst v') w') : wpList P ops Q (o :: rest) a w :=
  wpList_plain hgd fun K hK => by
    unfold Oper.wp execOp
    simp only [ho, resolve, invoke, builtin, Sem.run_bind, Sem.run_pure, Result.andThen_ok, List.map_toArray, List.map_cons, List.map_nil, hd, hr]
    exact hK _ _ h
/-! ### Cells of the first, of the rest -/
theorem flat_take {α β : Type} {f : α → List β} {k : Nat} (h : ∀ x, (f x).length = k) (l : List α) (j : Nat) : (l.flatMap f).take (j * k) = (l.take j).flatMap f := by
  have e2 : l.flatMap f = (l.take j).flatMap f ++ (l.drop j).flatMap f := by rw [← List.flatMap_append, List.take_append_drop]
  rcases Nat.le_total j l.length with hj | hj
  · have hl : ((l.take j).flatMap f).length = j * k := by rw [flat_length h, List.length_take]; congr 1; omega
    rw [e2, ← hl, List.take_left]
  · rw [List.take_of_length_le hj, List.take_of_length_le (by rw [flat_length h]; exact Nat.mul_le_mul_right _ hj)]
theorem flat_drop {α β : Type} {f : α → List β} {k : Nat} (h : ∀ x, (f x).length = k) (l : List α) (j : Nat) : (l.flatMap f).drop (j * k) = (l.drop j).flatMap f := by
  have e2 : l.flatMap f = (l.take j).flatMap f ++ (l.drop j).flatMap f := by rw [← List.flatMap_append, List.take_append_drop]
  rcases Nat.le_total j l.length with hj | hj
  · have hl : ((l.take j).flatMap f).length = j * k := by rw [flat_length h, List.length_take]; congr 1; omega
    rw [e2, ← hl, List.drop_left]
  · rw [List.drop_eq_nil_of_le hj, List.drop_eq_nil_of_le (by rw [flat_length h]; exact Nat.mul_le_mul_right _ hj)]
    rfl
end Go.Proofs.Ytfijlgkgbbemnaa
namespace Go.Proofs.Ytfijlgkgbbemnaa
open Go.RowKit
set_option linter.unusedVariables false
set_option linter.unusedSimpArgs false
set_option maxRecDepth 20000

def Ent.cells (e : Ent) : List Value := [.int .u32 (e.t.owner : Int), .int .u64 (e.t.rate : Int), .int .i64 e.t.over, .int .i64 e.u]
@[reducible] def Ent.val (e : Ent) : Value := .agg #[.int .u32 (e.t.owner : Int), .int .u64 (e.t.rate : Int), .int .i64 e.t.over, .int .i64 e.u]
theorem Ent.cells4 (e : Ent) : e.cells.length = 4 := rfl
def cellsEn (l : Ents) : List Value := List.flatMap Ent.cells l
theorem cellsEn_len (l : Ents) : (cellsEn l).length = l.length * 4 := flat_length Ent.cells4 l
theorem cellsEn_app (l r : Ents) : cellsEn (l ++ r) = cellsEn l ++ cellsEn r := List.flatMap_append
theorem cellsEn_one (l : Ents) : ∀ u ∈ cellsEn l, u.oneCell' = true := by
  intro u hu
  obtain ⟨x, _, hx⟩ := List.mem_flatMap.1 hu
  simp only [Ent.cells, List.mem_cons, List.not_mem_nil, or_false] at hx
  rcases hx with rfl | rfl | rfl | rfl <;> rfl
theorem cellsEn_take (L : Ents) (j : Nat) : (cellsEn L).take (j * 4) = cellsEn (List.take j L) := flat_take Ent.cells4 L j
theorem cellsEn_drop (L : Ents) (j : Nat) : (cellsEn L).drop (j * 4) = cellsEn (List.drop j L) := flat_drop Ent.cells4 L j
def zE : Ent := ⟨zT, 0⟩
theorem zE_in : zE.In := ⟨zT_in, ⟨by decide, by decide⟩⟩
theorem en_info : (Try.prog.info? 64).map (fun i => (i.zero, i.size, i.bytes)) = some (some zE.val, 4, 32) := by kernel_rfl
/-- Such a row of one's own. -/
def OwnEn (w : World) (base : Nat) (v : Value) (l : Ents) : Prop := w.ownsRow base 64 4 v l.length (cellsEn l)
theorem OwnEn.nil (w : World) (base : Nat) : OwnEn w base (.slice none 0 0) [] := own_nil w base 4 _
theorem OwnEn.on {w w' : World} {base : Nat} {v : Value} {l : Ents} (h : OwnEn w base v l) (hb : Below w.heap.size w w') : OwnEn w' base v l := own_kept h hb
theorem OwnEn.onlyS {w w' : World} {base : Nat} {v : Value} {l : Ents} {T : Nat → Prop} (h : OwnEn w base v l) (ho : OnlyS T w w') (hT : ∀ k, v.ownBlock = some k → ¬ T k) : OwnEn w' base v l := own_onlyS h ho hT
theorem OwnEn.lt {w : World} {base : Nat} {v : Value} {l : Ents} (h : OwnEn w base v l) {k : Nat} (hk : v.ownBlock = some k) : base ≤ k ∧ k < w.heap.size := World.ownsRow.lt h k hk
theorem OwnEn.val {w : World} {base : Nat} {v : Value} {l : Ents} (h : OwnEn w base v l) : ∃ A c, v = .slice A l.length c ∧ l.length ≤ c ∧ RX w w.heap.size A l.length c 4 (cellsEn l) ∧ ∀ ad, A = some ad → base ≤ ad.block := by
  obtain ⟨A, c, e, hr, hb⟩ := own_rx (cellsEn_len l) h
  exact ⟨A, c, e, hr.2.1, hr, hb⟩
/-- The cells of the q-th, as a walk spells them. -/
theorem rx_en {w : World} {B : Nat} {A : Option Addr} {n c : Nat} {l : Ents} (h : RX w B A n c 4 (cellsEn l)) {q : Nat} (hq : q < l.length) : ∃ b off, A = some ⟨b, off, none⟩ ∧ b < B ∧ w.cell? ⟨b, off + q * 4, none⟩ = some (.int .u32 (l[q].t.owner : Int)) ∧ w.cell? ⟨b, off + q * 4 + 1, none⟩ = some (.int .u64 (l[q].t.rate : Int)) ∧ w.cell? ⟨b, off + q * 4 + 2, none⟩ = some (.int .i64 l[q].t.over) ∧ w.cell? ⟨b, off + q * 4 + 3, none⟩ = some (.int .i64 l[q].u) := by
  have hl := h.1
  rw [cellsEn_len] at hl
  obtain ⟨b, off, e, hb, hc⟩ := h.2.2 (by omega)
  have g := fun j hj => flat_get (f := Ent.cells) (k := 4) Ent.cells4 l q j hq hj
  refine ⟨b, off, e, hb, ?_, ?_, ?_, ?_⟩
  · exact hc (q * 4) _ ((g 0 (by omega)).trans rfl)
  · rw [Nat.add_assoc]; exact hc (q * 4 + 1) _ ((g 1 (by omega)).trans rfl)
  · rw [Nat.add_assoc]; exact hc (q * 4 + 2) _ ((g 2 (by omega)).trans rfl)
  · rw [Nat.add_assoc]; exact hc (q * 4 + 3) _ ((g 3 (by omega)).trans rfl)
/-- Where such a row has a block: all of it. -/
theorem OwnEn.blk {w : World} {base g n c : Nat} {off : Nat} {l : Ents} (h : OwnEn w base (.slice (some ⟨g, off, none⟩) n c) l) : off = 0 ∧ n = l.length ∧ base ≤ g ∧ ∃ cur, Blk w g 64 cur ∧ l.length ≤ c ∧ c ≤ maxLen ∧ cur.size = c * 4 ∧ cur.toList.take (l.length * 4) = cellsEn l := by
  obtain ⟨hl, ⟨e, _⟩ | ⟨g', cap, cur, e, hb, hg, hnc, hcm, hcs, htk⟩⟩ := h
  · cases e
  · injection e with e1 e2 e3
    injection e1 with e1
    injection e1 with e1 e4
    subst e1 e2 e3 e4
    exact ⟨rfl, rfl, hb, cur, hg, hnc, hcm, hcs, htk⟩
theorem OwnEn.mk {w : World} {base g c : Nat} {l : Ents} {cur : Array Value} (hb : base ≤ g) (hg : Blk w g 64 cur) (hnc : l.length ≤ c) (hcm : c ≤ maxLen) (hcs : cur.size = c * 4) (htk : cur.toList.take (l.length * 4) = cellsEn l) : OwnEn w base (.slice (some ⟨g, 0, none⟩) l.length c) l :=
  ⟨cellsEn_len l, .inr ⟨g, c, cur, rfl, hb, hg, hnc, hcm, hcs, htk⟩⟩
/-- A row of one's own is not a block of another type. -/
theorem OwnEn.ne {w : World} {base G : Nat} {v : Value} {l : Ents} {t : TypeId} {cs : Array Value} (h : OwnEn w base v l) (hB : Blk w G t cs) (he : 64 ≠ t) : v.ownBlock ≠ some G := own_blk_ne h hB he
/-- A row's first ones. -/
theorem OwnEn.first {w : World} {base g c : Nat} {l : Ents} (h : OwnEn w base (.slice (some ⟨g, 0, none⟩) l.length c) l) {m : Nat} (hm : m ≤ l.length) : OwnEn w base (.slice (some ⟨g, 0, none⟩) m c) (List.take m l) := by
  obtain ⟨_, _, hb, cur, hg, hnc, hcm, hcs, htk⟩ := h.blk
  have hl : (List.take m l).length = m := by rw [List.length_take]; omega
  have := OwnEn.mk (l := List.take m l) hb hg (by rw [hl]; omega) hcm hcs (by rw [hl, ← cellsEn_take, ← htk, List.take_take, Nat.min_eq_left (Nat.mul_le_mul_right 4 hm)])
  rwa [hl] at this
theorem cellsEn_set4 : ∀ (L : Ents) (q : Nat) (x : Ent) (h : q < L.length), ((((cellsEn L).set (q * 4) (.int .u32 (x.t.owner : Int))).set (q * 4 + 1) (.int .u64 (x.t.rate : Int))).set (q * 4 + 2) (.int .i64 x.t.over)).set (q * 4 + 3) (.int .i64 x.u) = cellsEn (L.set q x)
  | y :: l, 0, x, _ => rfl
  | y :: l, q + 1, x, h => by
    have ih := cellsEn_set4 l q x (by simpa using h)
    have e1 : cellsEn (y :: l) = .int .u32 (y.t.owner : Int) :: .int .u64 (y.t.rate : Int) :: .int .i64 y.t.over :: .int .i64 y.u :: cellsEn l := rfl
    have e2 : (q + 1) * 4 = q * 4 + 4 := by omega
    rw [e1, e2]
    show .int .u32 (y.t.owner : Int) :: .int .u64 (y.t.rate : Int) :: .int .i64 y.t.over :: .int .i64 y.u :: ((((cellsEn l).set (q * 4) (.int .u32 (x.t.owner : Int))).set (q * 4 + 1) (.int .u64 (x.t.rate : Int))).set (q * 4 + 2) (.int .i64 x.t.over)).set (q * 4 + 3) (.int .i64 x.u) = _
    rw [ih]
    rfl
/-- The world with the q-th written over. -/
def setEn (w : World) (g off q : Nat) (x : Ent) : World := (((w.setCell ⟨g, off + q * 4, none⟩ (.int .u32 (x.t.owner : Int))).setCell ⟨g, off + q * 4 + 1, none⟩ (.int .u64 (x.t.rate : Int))).setCell ⟨g, off + q * 4 + 2, none⟩ (.int .i64 x.t.over)).setCell ⟨g, off + q * 4 + 3, none⟩ (.int .i64 x.u)
theorem OwnEn.setAll {w : World} {base g off n c q : Nat} {x : Ent} {L : Ents} (h : OwnEn w base (.slice (some ⟨g, off, none⟩) n c) L) (hq : q < L.length) : OwnEn (setEn w g off q x) base (.slice (some ⟨g, off, none⟩) n c) (L.set q x) ∧ Only g w (setEn w g off q x) := by
  refine ⟨?_, ⟨rfl, rfl, rfl, by simp [setEn, World.setCell], fun k hk hn => ?_⟩⟩
  · obtain ⟨rfl, rfl, hb, cur, hg, hnc, hcm, hcs, htk⟩ := h.blk
    have hB : Blk (setEn w g 0 q x) g 64 ((((cur.setIfInBounds (q * 4) (.int .u32 (x.t.owner : Int))).setIfInBounds (q * 4 + 1) (.int .u64 (x.t.rate : Int))).setIfInBounds (q * 4 + 2) (.int .i64 x.t.over)).setIfInBounds (q * 4 + 3) (.int .i64 x.u)) := by
      unfold setEn
      rw [Nat.zero_add]
      exact (((hg.set_ _ _).set_ _ _).set_ _ _).set_ _ _
    have := OwnEn.mk (l := L.set q x) hb hB (by rw [List.length_set]; exact hnc) hcm (by simpa using hcs) (by
      rw [Array.toList_setIfInBounds, Array.toList_setIfInBounds, Array.toList_setIfInBounds, Array.toList_setIfInBounds, List.length_set, ← cellsEn_set4 L q x hq, ← htk, List.take_set, List.take_set, List.take_set, List.take_set])
    rwa [List.length_set] at this
  · unfold setEn
    rw [Below.heap_setCell _ ⟨g, _, none⟩ _ k hn, Below.heap_setCell _ ⟨g, _, none⟩ _ k hn, Below.heap_setCell _ ⟨g, _, none⟩ _ k hn, Below.heap_setCell _ ⟨g, _, none⟩ _ k hn]
theorem OwnEn.froz {w : World} {base g off n c : Nat} {L : Ents} (h : OwnEn w base (.slice (some ⟨g, off, none⟩) n c) L) : ∀ i, w.frozen? ⟨g, i, none⟩ = false := by
  obtain ⟨_, _, _, cur, hg, _⟩ := h.blk
  exact fun i => hg.frozen i
/-- A literal of one reads as it. -/
theorem one_en (w : World) (x : Ent) : RX (w.alloc (.cells #[.int .u32 (x.t.owner : Int), .int .u64 (x.t.rate : Int), .int .i64 x.t.over, .int .i64 x.u] 64)) (w.heap.size + 1) (some ⟨w.heap.size, 0, none⟩) 1 1 4 (cellsEn [x]) := by
  refine ⟨rfl, Nat.le_refl _, fun _ => ⟨w.heap.size, 0, rfl, by omega, fun j v hj => ?_⟩⟩
  have h : Blk (w.alloc (.cells #[.int .u32 (x.t.owner : Int), .int .u64 (x.t.rate : Int), .int .i64 x.t.over, .int .i64 x.u] 64)) w.heap.size 64 #[.int .u32 (x.t.owner : Int), .int .u64 (x.t.rate : Int), .int .i64 x.t.over, .int .i64 x.u] := Blk.new _ _ _
  rw [Nat.zero_add, h.cell j, ← hj]
  simp [cellsEn, Ent.cells]
end Go.Proofs.Ytfijlgkgbbemnaa
namespace Go.Proofs.Ytfijlgkgbbemnaa
open Go.RowKit
set_option linter.unusedVariables false
set_option linter.unusedSimpArgs false
set_option maxRecDepth 20000

/-- The limit at G: its cap, its REMB in bits, its rows at v. -/
structure LpAt (w : World) (G c rm : Nat) (v : Value) (E : Ents) : Prop where
  blk : Blk w G 61 #[.int .i64 (c : Int), .int .u64 (rm : Int), v]
  own : OwnEn w 0 v E
section
variable {w w' : World} {G c rm : Nat} {v : Value} {E : Ents}
theorem LpAt.ne (h : LpAt w G c rm v E) : v.ownBlock ≠ some G := h.own.ne h.blk (by decide)
theorem LpAt.keep {T : Nat → Prop} (h : LpAt w G c rm v E) (ho : OnlyS T w w') (h1 : ¬ T G) (h2 : ∀ k, v.ownBlock = some k → ¬ T k) : LpAt w' G c rm v E := ⟨h.blk.onlyS ho h1, h.own.onlyS ho h2⟩
theorem LpAt.on (h : LpAt w G c rm v E) (hb : Below w.heap.size w w') : LpAt w' G c rm v E := h.keep (OnlyS.of (S := fun _ => False) hb) (fun h => h) (fun _ _ h => h)
theorem LpAt.cells (h : LpAt w G c rm v E) : (w.cell? ⟨G, 0, none⟩ = some (.int .i64 (c : Int)) ∧ w.cell? ⟨G, 1, none⟩ = some (.int .u64 (rm : Int)) ∧ w.cell? ⟨G, 2, none⟩ = some v) ∧ ∀ i, w.frozen? ⟨G, i, none⟩ = false := ⟨⟨h.blk.cell 0, h.blk.cell 1, h.blk.cell 2⟩, fun i => h.blk.frozen i⟩
end
def maxU : Nat := 18446744073709551615
theorem lp_new (a : Int) (ha : I64 a) (w : World) : Calls Try.prog 13 #[.int .i64 a] w (fun e w' => ∃ G, e = .returned (.pointer (some ⟨G, 0, none⟩)) ∧ LpAt w' G (capN a) maxU (.slice none 0 0) [] ∧ w.heap.size ≤ G ∧ Below w.heap.size w w') := by
  have HE : Hid (capN a = if a < 1 then 1 else min a.toNat 1099511627776) := Lib.hid rfl
  generalize capN a = E at HE ⊢
  have HB := Lib.hid (⟨Blk.new w _ _, belowA w _⟩ : Blk (w.alloc (.cells #[.int .i64 (E : Int), .int .u64 18446744073709551615, .slice none 0 0] 61)) w.heap.size 61 #[.int .i64 (E : Int), .int .u64 18446744073709551615, .slice none 0 0] ∧ Below w.heap.size w (w.alloc (.cells #[.int .i64 (E : Int), .int .u64 18446744073709551615, .slice none 0 0] 61)))
  have fin : Hid (∃ G, (.returned (.pointer (some ⟨w.heap.size, 0, none⟩)) : Ending) = .returned (.pointer (some ⟨G, 0, none⟩)) ∧ LpAt (w.alloc (.cells #[.int .i64 (E : Int), .int .u64 18446744073709551615, .slice none 0 0] 61)) G E maxU (.slice none 0 0) [] ∧ w.heap.size ≤ G ∧ Below w.heap.size w (w.alloc (.cells #[.int .i64 (E : Int), .int .u64 18446744073709551615, .slice none 0 0] 61))) :=
    Lib.hid ⟨w.heap.size, rfl, ⟨HB.out.1, OwnEn.nil _ _⟩, Nat.le_refl _, HB.out.2⟩
  clear HB
  have hc : a < 1 ∨ (1 ≤ a ∧ a ≤ 1099511627776) ∨ 1099511627776 < a := by omega
  rcases hc with h | h | h
  · have hE : E = 1 := by rw [HE.out, if_pos h]
    subst hE
    have h6 : ¬ 1 < a := by omega
    have q1 : (if a < 1 then (1 : Int) else a) = 1 := by split <;> omega
    have q4 : (if 1 < a then a else (1 : Int)) = 1 := by split <;> omega
    clear HE
    go_enter Try.func13, Try.ntmps13
    go_wp2_with fail
    go_ret
    exact fin.out
  · obtain ⟨x, rfl⟩ : ∃ x : Nat, a = (x : Int) := ⟨a.toNat, by omega⟩
    have hE : E = x := by rw [HE.out, if_neg (by omega)]; omega
    subst hE
    have h3 : ¬ (1099511627776 : Int) < (E : Int) := by omega
    have h4 : (E : Int) ≤ 1099511627776 := by omega
    have h5 : ¬ (E : Int) < 1 := by omega
    have h6 : (1 : Int) ≤ (E : Int) := by omega
    have q2 : (if (1099511627776 : Int) < (E : Int) then (1099511627776 : Int) else (E : Int)) = (E : Int) := by split <;> omega
    have q1 : (if (E : Int) < 1099511627776 then (E : Int) else (1099511627776 : Int)) = (E : Int) := by split <;> omega
    have q3 : (if (E : Int) < 1 then (1 : Int) else (E : Int)) = (E : Int) := by split <;> omega
    have q4 : (if 1 < (E : Int) then (E : Int) else 1) = (E : Int) := by split <;> omega
    clear HE h
    go_enter Try.func13, Try.ntmps13
    go_wp2_with fail
    go_ret
    exact fin.out
  · have hE : E = 1099511627776 := by rw [HE.out, if_neg (by omega)]; omega
    subst hE
    have h2 : ¬ a ≤ 1099511627776 := by omega
    have h3 : ¬ a < 1099511627776 := by omega
    have h4 : ¬ a < 1 := by omega
    have h5 : 1 < a := by omega
    go_enter Try.func13, Try.ntmps13
    go_wp2_with fail
    go_ret
    exact fin.out
theorem lp_remb {w : World} {G c rm : Nat} {v : Value} {E : Ents} (h : LpAt w G c rm v E) (r : Nat) : Calls Try.prog 16 #[.pointer (some ⟨G, 0, none⟩), .int .u64 (r : Int)] w (fun e w' => e = .returned (.tuple #[]) ∧ LpAt w' G c r v E ∧ Only G w w') := by
  obtain ⟨⟨c0, c1, c2⟩, hf⟩ := h.cells
  have f1 := hf 1
  have HF := Lib.hid (⟨⟨(h.blk.set_ 1 (.int .u64 (r : Int))), (h.own.onlyS (OnlyS.one (S := fun k => k = G) (Only.set G 1 w (.int .u64 (r : Int))) rfl) (fun k hk e => h.ne (hk.trans (congrArg some e))))⟩, Only.set G 1 w (.int .u64 (r : Int))⟩ : LpAt (w.setCell ⟨G, 1, none⟩ (.int .u64 (r : Int))) G c r v E ∧ Only G w (w.setCell ⟨G, 1, none⟩ (.int .u64 (r : Int))))
  clear hf h
  go_enter Try.func16, Try.ntmps16
  go_wp2_with fail
  refine bodyPost_end (results_none Try.results16 _ _ _) rfl ?_
  exact ⟨rfl, HF.out⟩
/-- Whether a row's time has come. -/
theorem lp_gone (e : Ent) {g : Nat} {now : Int} {w : World} (hg : w.cell? ⟨g, 0, none⟩ = some (.int .i64 now)) (hlt : g < w.heap.size) : Calls Try.prog 34 #[e.val, .pointer (some ⟨g, 0, none⟩)] w (AnsB (.bool (decide (e.u ≤ now))) w) := by
  obtain ⟨⟨o, r, v⟩, u⟩ := e
  have HB := Lib.hid (belowA w (.cells #[.int .u32 (o : Int), .int .u64 (r : Int), .int .i64 v, .int .i64 u] 64))
  go_enter Try.func34, Try.ntmps34
  go_wp2_with fail
  go_ret
  exact ⟨rfl, HB.out⟩
end Go.Proofs.Ytfijlgkgbbemnaa
namespace Go.Proofs.Ytfijlgkgbbemnaa
open Go.RowKit
set_option linter.unusedVariables false
set_option linter.unusedSimpArgs false
set_option maxRecDepth 20000

theorem enB (w : World) (B : Nat) {w0 : World} (e : Ent) (h : Below B w0 w) (hs : B ≤ w.heap.size) : Below B w0 (w.alloc (.cells #[.int .u32 (e.t.owner : Int), .int .u64 (e.t.rate : Int), .int .i64 e.t.over, .int .i64 e.u] 64)) := h.trans ((belowA w _).mono hs)
set_option maxHeartbeats 1000000 in
theorem lp_place {w : World} {G c rm : Nat} {v : Value} {E : Ents} (h : LpAt w G c rm v E) (o : Nat) (ho : o < 4294967296) (hn : E.length ≤ 1000) (hi : ∀ e ∈ E, e.In) :
    Calls Try.prog 29 #[.pointer (some ⟨G, 0, none⟩), .int .u32 (o : Int)] w (AnsB (.tuple #[.int .i64 ((posE E o : Nat) : Int), .bool (hereE E o)]) w) := by
  obtain ⟨⟨c0, c1, c2⟩, hf⟩ := h.cells
  obtain ⟨A, ca, rfl, hca, hr, _⟩ := h.own.val
  have HR := Lib.hid hr
  have GL := Lib.hid h.blk.lt
  have HI := Lib.hid hi
  obtain ⟨n, hnn⟩ : ∃ n, n = E.length := ⟨_, rfl⟩
  have HN := Lib.hid hnn
  rw [← hnn] at HR c2 hn hca
  have HP : Hid (∀ q, q ≤ n → (∀ k (hk : k < E.length), k < q → E[k].t.owner < o) → (∀ (hk : q < E.length), ¬ E[q].t.owner < o) → posE E o = q) := Lib.hid fun q hq h1 h2 => posE_stop E o q (by have := HN.out; omega) h1 h2
  clear hf hr hi h hnn
  go_enter Try.func29, Try.ntmps29
  go_wp2_with fail
  go_loopw [7, 6, 13] (fun _ _ i wr => ∃ q : Nat, q ≤ n ∧ i = .int .i64 (q : Int) ∧ Hid (Below w.heap.size w wr ∧ ∀ k (hk : k < E.length), k < q → E[k].t.owner < o)) (fun _ _ i _ => n - (intOf i).toNat)
  case atStart => exact ⟨0, by omega, rfl, Lib.hid ⟨Below.refl _ _, fun k hk h => absurd h (by omega)⟩⟩
  case round =>
    obtain ⟨q, hq, rfl, HO⟩ := hrel
    by_cases hlt : q < n
    · have hql : q < E.length := by have := HN.out; omega
      obtain ⟨b, off, rfl, hbA, a0, a1, a2, a3⟩ := rx_en (HR.out.below HO.out.1) hql
      have hsz := HO.out.1.size
      have hx := HI.out _ (List.getElem_mem hql)
      have HX : Hid (posE E o = q ↔ ¬ E[q].t.owner < o) := Lib.hid ⟨fun h1 => by have := posE_at E o (by rw [h1]; exact hql); simp only [h1] at this; exact this, fun h1 => HP.out q hq HO.out.2 fun _ => h1⟩
      have HY : Hid (¬ E[q].t.owner < o → hereE E o = decide (E[q].t.owner = o)) := Lib.hid fun h1 => by
        have hp := HP.out q hq HO.out.2 fun _ => h1
        unfold hereE
        rw [hp, List.getElem?_eq_getElem hql]
        show (E[q].t.owner == o) = _
        by_cases h9 : E[q].t.owner = o <;> simp [h9]
      have HS : Hid (E[q].t.owner < o → ∀ k (hk : k < E.length), k < q + 1 → E[k].t.owner < o) := Lib.hid fun h1 k hk h2 => by
        rcases Nat.lt_or_ge k q with h3 | h3
        · exact HO.out.2 k hk h3
        · have : k = q := by omega
          subst this
          exact h1
      have hyo := hx.t.owner
      have b1 := Lib.hid (enB wr w.heap.size E[q] HO.out.1 hsz)
      clear HO hx
      generalize E[q] = x at *
      clear hbA hql hsz
      have g2 : (q : Int) < (n : Int) := by omega
      obtain ⟨⟨xo, xr, xv⟩, xu⟩ := x
      simp only at a0 a1 a2 a3 HX HY HS hyo b1
      by_cases hgo : xo < o
      · have g3 : ¬ (o : Int) ≤ (xo : Int) := by omega
        have d3 : decide ((o : Int) ≤ (xo : Int)) = false := by simpa using g3
        have d4 : decide ((xo : Int) ≥ (o : Int)) = false := by simpa using g3
        go_wp2_with fail
        go_roundw
        case rel => exact ⟨q + 1, by omega, by go_num, Lib.hid ⟨b1.out, HS.out hgo⟩⟩
        case measure => simp [intOf]; omega
      · have g3 : (o : Int) ≤ (xo : Int) := by omega
        have hp := HX.out.2 hgo
        have hh := HY.out hgo
        rw [hp, hh]
        clear HX HY HS hp hh
        have d5 : decide ((xo : Int) = (o : Int)) = decide (xo = o) := by by_cases hxo : xo = o <;> simp [hxo] <;> omega
        have d6 : ((xo : Int) == (o : Int)) = decide (xo = o) := by by_cases hxo : xo = o <;> simp [hxo] <;> omega
        go_upto_region 5 with (fail)
        go_quiet (fail)
        go_wp2_with fail
        go_ret2
        exact ⟨rfl, ⟨b1.out.os, b1.out.tape, b1.out.output, b1.out.size, b1.out.block⟩⟩
    · have hqn : q = n := by omega
      subst hqn
      have z1 : ¬ (q : Int) < (q : Int) := by omega
      have hp : posE E o = q := HP.out q (Nat.le_refl _) HO.out.2 fun hk => absurd hk (by have := HN.out; omega)
      have hh : hereE E o = false := hereE_no fun hk => absurd hk (by have := HN.out; omega)
      have HPH := Lib.hid (And.intro hp hh)
      have HB := Lib.hid HO.out.1
      have e2 := (HO.out.1.cell (p := ⟨G, 2, none⟩) GL.out).trans c2
      clear HO hp hh hlt
      go_wp2_with fail
      go_ret2
      exact ⟨by rw [HPH.out.1, HPH.out.2]; first | rfl | simp, HB.out⟩
set_option maxHeartbeats 1000000 in
theorem lp_tuples {w : World} {G c rm : Nat} {v : Value} {E : Ents} (h : LpAt w G c rm v E) (hn : E.length ≤ 1000) (hi : ∀ e ∈ E, e.In) :
    Calls Try.prog 18 #[.pointer (some ⟨G, 0, none⟩)] w (RowOut w E.T) := by
  obtain ⟨⟨c0, c1, c2⟩, hf⟩ := h.cells
  obtain ⟨A, ca, rfl, hca, hr, _⟩ := h.own.val
  have HR := Lib.hid hr
  have HI := Lib.hid hi
  obtain ⟨n, hnn⟩ : ∃ n, n = E.length := ⟨_, rfl⟩
  have HN := Lib.hid hnn
  rw [← hnn] at HR c2 hn hca
  clear hf hr hi h hnn
  go_enter Try.func18, Try.ntmps18
  go_wp2_with fail
  go_loopw [3, 5, 11] (fun v _ i wr => ∃ q : Nat, q ≤ n ∧ i = .int .i64 (q : Int) ∧ Hid (OwnTp wr w.heap.size v (Ents.T (List.take q E)) ∧ Below w.heap.size w wr)) (fun _ _ i _ => n - (intOf i).toNat)
  case atStart => exact ⟨0, by omega, rfl, Lib.hid ⟨OwnTp.nil _ _, Below.refl _ _⟩⟩
  case round =>
    obtain ⟨q, hq, rfl, HO⟩ := hrel
    by_cases hlt : q < n
    · have hql : q < E.length := by have := HN.out; omega
      obtain ⟨hown, hb⟩ := HO.out
      obtain ⟨b, off, rfl, hbA, a0, a1, a2, a3⟩ := rx_en (HR.out.below hb) hql
      have hx : E[q].In := HI.out _ (List.getElem_mem hql)
      have HT : Hid (Ents.T (List.take (q + 1) E) = Ents.T (List.take q E) ++ [E[q].t]) := Lib.hid (by
        unfold Ents.T
        rw [List.take_succ_eq_append_getElem hql, List.map_append]
        rfl)
      have HLE : Hid ((Ents.T (List.take q E)).length ≤ q) := Lib.hid (by
        rw [Ents.T_len]
        exact List.length_take_le _ _)
      have HMI : Hid (∀ t ∈ Ents.T (List.take q E), t.In) := Lib.hid (fun t ht => by
        obtain ⟨e, he, rfl⟩ := List.mem_map.1 ht
        exact (HI.out e (List.mem_of_mem_take he)).t)
      have hsz := hb.size
      have HX := Lib.hid hx.t
      clear HO hx
      generalize E[q] = x at *
      generalize Ents.T (List.take q E) = M at *
      have g2 : (q : Int) < (n : Int) := by omega
      obtain ⟨Am, cm, rfl, _, _⟩ := hown.rt HMI.out
      have b1 := enB wr w.heap.size x hb hsz
      have o1 := hown.on (belowA wr (.cells #[.int .u32 (x.t.owner : Int), .int .u64 (x.t.rate : Int), .int .i64 x.t.over, .int .i64 x.u] 64))
      clear hown hb hbA hql hsz
      obtain ⟨mm, hmm⟩ : ∃ mm, mm = M.length := ⟨_, rfl⟩
      rw [← hmm] at o1 HLE ⊢
      have HMM := Lib.hid hmm
      clear hmm
      obtain ⟨⟨xo, xr, xv⟩, xu⟩ := x
      simp only at a0 a1 a2 a3 b1 o1 HX HT
      generalize hW : wr.alloc (.cells #[.int .u32 (xo : Int), .int .u64 (xr : Int), .int .i64 xv, .int .i64 xu] 64) = W2 at b1 o1
      have oA := o1.on (belowA W2 (.cells #[.int .u32 (xo : Int), .int .u64 (xr : Int), .int .i64 xv] 31))
      have rA := one_rt W2 ⟨xo, xr, xv⟩ HX.out
      have bA := b1.trans ((belowA W2 (.cells #[.int .u32 (xo : Int), .int .u64 (xr : Int), .int .i64 xv] 31)).mono b1.size)
      have sA := bA.size
      have hs2 : W2.heap.size = wr.heap.size + 1 := by rw [← hW]; simp
      rw [hs2] at rA
      rw [← hW] at oA rA bA sA
      clear b1 o1 hs2 hW W2
      simp only at oA rA bA sA
      go_wp2_with (at_builtin; go_loud (with_reducible refine wpList_appendTp rfl (.tmp 15) (.tmp 18) rfl rfl w.heap.size (.slice Am mm cm) M (by with_unfolding_all rfl) oA _ _ 1 1 [⟨xo, xr, xv⟩] (by with_unfolding_all rfl) rA (by rw [← HMM.out]; have := HLE.out; omega) sA ?_); intro v9 w9 ha9)
      have b9 := below_grown bA sA ha9.2 (fun kk hkk => (World.ownsRow.lt oA kk hkk).1)
      have HF := Lib.hid (⟨ha9.1, b9⟩ : _ ∧ _)
      clear ha9 oA rA bA sA b9
      go_roundw
      case rel => exact ⟨q + 1, by omega, by go_num, Lib.hid ⟨by rw [HT.out]; exact HF.out.1, HF.out.2⟩⟩
      case measure => simp [intOf]; omega
    · have hqn : q = n := by omega
      have HE : Hid (List.take q E = E) := Lib.hid (List.take_of_length_le (by have := HN.out; omega))
      have z1 : ¬ (q : Int) < (n : Int) := by omega
      clear hlt
      go_wp2_with fail
      go_ret
      exact ⟨_, rfl, by have := HO.out.1; rw [HE.out] at this; exact this, HO.out.2⟩
end Go.Proofs.Ytfijlgkgbbemnaa
