/- Contracts: limelightref6.parse: Fir. -/
import Derived.Test.YtnchgmemajmkjaaRcH
import Derived.Test.YtnchgmemajmkjaaRegS
namespace Go.Proofs.Ytnchgmemajmkjaa
open Go.RowKit
set_option linter.unusedVariables false
set_option linter.unusedSimpArgs false
set_option maxRecDepth 20000

def OwnI (w : World) (base : Nat) (v : Value) (l : List Int) : Prop := w.ownsRow base 3 1 v l.length (l.map iv)
theorem int_info : (Try.prog.info? 3).map (fun i => (i.zero, i.size, i.bytes)) = some (some (.int .i64 0), 1, 8) := by kernel_rfl
theorem OwnI.rn {w : World} {base : Nat} {v : Value} {l : List Int} (h : OwnI w base v l) (hl : ∀ x ∈ l, I64 x) : ∃ A c, v = .slice A l.length c ∧ RN w w.heap.size A l.length c l := by
  obtain ⟨A, c, e, hr, _⟩ := own_rx (size := 1) (by simp) h
  exact ⟨A, c, e, rfl, hl, hr⟩
theorem iv_one (l : List Int) : ∀ u ∈ l.map iv, u.oneCell' = true := by
  intro u hu
  obtain ⟨b, _, rfl⟩ := List.mem_map.1 hu
  rfl
theorem run_op_append {o : Oper} {ev : Operand → Value} {w w' : World} (s x : Operand) (t ty : TypeId) (ho : o.op = .call { callee := .builtin .append, args := #[s, x], argTypes := #[t, t] }) (hty : o.type = ty) (v v' : Value) (A : Option Addr) (m c : Nat)
    (hs : ev s = v) (hx : ev x = .slice A m c) (hrun : (Builtin.append_ #[t, t] ty #[v, .slice A m c]).run Try.prog w = .ok v' w') : (execOp ev o).run Try.prog w = .ok (.value v') w' := by
  unfold execOp
  simp only [ho, hty, resolve, invoke, builtin, Sem.run_bind, Sem.run_pure, Result.andThen_ok, List.map_toArray, List.map_cons, List.map_nil, hs, hx, hrun]
/-- append of numbers onto a row of numbers; of words onto a row of words: with where the row lies. -/
theorem wpList_appendI {w : World} {ops : Array Oper} {rest : List Oper} {o : Oper} {a : Act} {Q : Exit → Act → World → Prop} (hgd : o.guard = none) (s x : Operand)
    (ho : o.op = .call { callee := .builtin .append, args := #[s, x], argTypes := #[23, 23] }) (hty : o.type = 23)
    (base : Nat) (v : Value) (l : List Int) (hs : a.eval s = v) (hown : OwnI w base v l)
    (B : Nat) (A : Option Addr) (m c : Nat) (r : List Int) (hx : a.eval x = .slice A m c) (hr : RN w B A m c r)
    (hb : l.length + m ≤ 1000000) (hbase : base ≤ w.heap.size)
    (h : ∀ v' w', OwnI w' base v' (l ++ r) ∧ w.grownBy w' v.ownBlock ∧ (v'.ownBlock = v.ownBlock ∨ v'.ownBlock = some w.heap.size) → wpList Try.prog ops Q rest (a.put o.dst v') w') : wpList Try.prog ops Q (o :: rest) a w :=
  wpList_appendX hgd s x 23 23 3 ho hty (.int .i64 0) 1 8 Try.underlying23 int_info rfl (by omega) base v l.length (l.map iv) hs hown B A m c (r.map iv) hx hr.2.2 (iv_one r) (by simp only [maxLen]; omega) (by omega) hbase
    fun v' w' ha => h v' w' ⟨by unfold OwnI; rw [List.length_append, hr.1, List.map_append]; exact ha.1, ha.2.1, ha.2.2⟩
theorem run_append32 {w : World} (base : Nat) (v : Value) (l : List Nat) (hown : Own32 w base v l) (B : Nat) (A : Option Addr) (m c : Nat) (r : List Nat) (hr : R32 w B A m c r) (hb : l.length + m ≤ 1000000) (hbase : base ≤ w.heap.size) :
    ∃ v' w', (Builtin.append_ #[29, 29] 29 #[v, .slice A m c]).run Try.prog w = .ok v' w' ∧ Own32 w' base v' (l ++ r) ∧ w.grownBy w' v.ownBlock ∧ (v'.ownBlock = v.ownBlock ∨ v'.ownBlock = some w.heap.size) := by
  obtain ⟨v', w', hrun, ha⟩ := run_appendX (w := w) base 29 29 27 (.int .u32 0) 1 4 Try.underlying29 u32_info rfl (by omega) v l.length (l.map wv) hown B A m c (r.map wv) hr.rx (wv_one r) (by simp only [maxLen]; omega) (by omega) hbase
  exact ⟨v', w', hrun, by unfold Own32; rw [List.length_append, hr.1, List.map_append]; exact ha.1, ha.2.1, ha.2.2⟩
theorem lit_rn (x : Int) (hx : I64 x) (W : World) : RN (W.alloc (.cells #[.int .i64 x] 3)) (W.alloc (.cells #[.int .i64 x] 3)).heap.size (some ⟨W.heap.size, 0, none⟩) 1 1 [x] := by
  have hB : Blk (W.alloc (.cells #[.int .i64 x] 3)) W.heap.size 3 #[.int .i64 x] := Blk.new _ _ _
  refine ⟨rfl, fun y hy => by rw [List.mem_singleton.1 hy]; exact hx, by simp, Nat.le_refl _, fun _ => ⟨W.heap.size, 0, rfl, by simp, fun j v hj => ?_⟩⟩
  rw [Nat.zero_add, hB.cell j]
  simpa [iv] using hj
def absR (ws : List Nat) : List Nat := (pairs (ws.drop 2)).map (·.1)
def numsR (ws : List Nat) : List Int := (pairs (ws.drop 2)).map (fun p => ((p.2 / 16777216 : Nat) : Int))
theorem drop2 (ws : List Nat) (i : Nat) : (ws.drop 2).getD i 0 = ws.getD (i + 2) 0 := by simp [List.getD_eq_getElem?_getD, Nat.add_comm]
theorem firR_len (ws : List Nat) : (absR ws).length = (ws.length - 2) / 2 ∧ (numsR ws).length = (ws.length - 2) / 2 := by simp [absR, numsR, pairs_len]
theorem firR_take {ws : List Nat} {q p : Nat} (hp : p = 2 * q + 2) (h : p + 1 < ws.length) : (absR ws).take q ++ [ws.getD p 0] = (absR ws).take (q + 1) ∧ (numsR ws).take q ++ [((ws.getD (p + 1) 0 / 16777216 : Nat) : Int)] = (numsR ws).take (q + 1) := by
  subst hp
  have h2 : q < (pairs (ws.drop 2)).length := by rw [pairs_len, List.length_drop]; omega
  have ha : q < (absR ws).length := by simpa [absR] using h2
  have hb : q < (numsR ws).length := by simpa [numsR] using h2
  constructor
  · rw [List.take_add_one, List.getElem?_eq_getElem ha]
    simp only [absR, List.getElem_map, pairs_at _ _ h2, drop2]
    rfl
  · rw [List.take_add_one, List.getElem?_eq_getElem hb]
    simp only [numsR, List.getElem_map, pairs_at _ _ h2, drop2]
    rfl
theorem absR_small {ws : List Nat} (hw : Small ws) : ∀ x ∈ absR ws, x < 4294967296 := by
  intro t ht
  obtain ⟨p, hp, rfl⟩ := List.mem_map.1 ht
  obtain ⟨q, hq, rfl⟩ := List.getElem_of_mem hp
  rw [pairs_at _ _ hq, drop2]
  exact hw.at _
theorem numsR_in {ws : List Nat} (hw : Small ws) : ∀ x ∈ numsR ws, I64 x := by
  intro t ht
  obtain ⟨p, hp, rfl⟩ := List.mem_map.1 ht
  obtain ⟨q, hq, rfl⟩ := List.getElem_of_mem hp
  rw [pairs_at _ _ hq]
  have := hw.at (2 * q + 1 + 2)
  rw [← drop2] at this
  unfold I64
  simp only
  omega
/-- What stands while a Fir's Abouts and Numbers are read. -/
structure FirAt (w : World) (f : Nat) (A : Option Addr) (c : Nat) (la : List Nat) (An : Option Addr) (cn : Nat) (ln : List Int) (wr : World) : Prop where
  below : Below w.heap.size w wr
  size : w.heap.size + 2 ≤ wr.heap.size
  b0 : Blk wr w.heap.size 33 #[Value.int .i64 0, .int .u32 0, .int .u32 0, .slice none 0 0, .slice none 0 0, .slice none 0 0, .int .u64 0, .int .i64 0, .int .i64 0, .slice none 0 0]
  b1 : Blk wr (w.heap.size + 1) 33 #[.int .i64 4, .int .u32 (f : Int), .int .u32 0, .slice none 0 0, .slice A la.length c, .slice An ln.length cn, .int .u64 0, .int .i64 0, .int .i64 0, .slice none 0 0]
  oa : Own32 wr (w.heap.size + 2) (.slice A la.length c) la
  on : OwnI wr (w.heap.size + 2) (.slice An ln.length cn) ln
/-- Rows of words and of numbers lie in blocks of their own. -/
theorem own_ne {w : World} {b b' : Nat} {v v' : Value} {l : List Nat} {l' : List Int} (h : Own32 w b v l) (h' : OwnI w b' v' l') : ∀ k, v.ownBlock = some k → v'.ownBlock ≠ some k := by
  intro k hk hk'
  rcases h.2 with ⟨hv, _⟩ | ⟨g, cap, cur, hv, _, hg, _⟩
  · subst hv
    simp [Value.ownBlock] at hk
  · rcases h'.2 with ⟨hv', _⟩ | ⟨g', cap', cur', hv', _, hg', _⟩
    · subst hv'
      simp [Value.ownBlock] at hk'
    · subst hv hv'
      simp only [Value.ownBlock] at hk hk'
      have e : g = g' := by simp_all
      subst e
      rw [hg] at hg'
      simp at hg'
/-- What stands in the round's region: all below the rows. -/
def firF (base : Nat) (wr : World) : Frame where
  I := fun W => Below base wr W ∧ wr.heap.size ≤ W.heap.size
  Fr := fun a b => Below a.heap.size a b
  refl := fun w _ => Below.refl _ w
  trans := fun a b c h k => h.trans (k.mono h.size)
  drew := fun W h => ⟨⟨h.1.trans (below_drewN _ W 1), h.2⟩, below_drewN _ W 1⟩
section
variable {base : Nat} {wr : World}
theorem own_keep {w w' : World} {b size n : Nat} {e : TypeId} {v : Value} {xs : List Value} (h : w.ownsRow b e size v n xs) (hb : Below w.heap.size w w') : w'.ownsRow b e size v n xs :=
  World.ownsRow.kept (row := none) h ⟨hb.os, hb.tape, hb.output, hb.size, fun k hk _ => hb.block k hk⟩ (by cases hv : v.ownBlock <;> simp)
theorem firF_step {W W' : World} (h : (firF base wr).I W) (hbw : base ≤ wr.heap.size) (hb : Below W.heap.size W W') : (firF base wr).I W' :=
  ⟨h.1.trans (hb.mono (Nat.le_trans hbw h.2)), Nat.le_trans h.2 hb.size⟩
/-- A new word, a new number: in a block that is new in this region. -/
def newW (base : Nat) (wr : World) (x : Nat) : ClF (firF base wr) := .pred (fun v W => ∃ g, v = .slice (some ⟨g, 0, none⟩) 1 1 ∧ wr.heap.size ≤ g ∧ R32 W W.heap.size (some ⟨g, 0, none⟩) 1 1 [x]) (fun v a b _ hf _ h => by
  obtain ⟨g, e, hg, hr⟩ := h
  exact ⟨g, e, hg, hr.on hf⟩)
theorem newW_of {x : Nat} {c : ClF (firF base wr)} {v : Value} {W : World} (h : c.holds v W) (e : c = newW base wr x) : ∃ g, v = .slice (some ⟨g, 0, none⟩) 1 1 ∧ wr.heap.size ≤ g ∧ R32 W W.heap.size (some ⟨g, 0, none⟩) 1 1 [x] := by subst e; exact h
def newI (base : Nat) (wr : World) (x : Int) : ClF (firF base wr) := .pred (fun v W => ∃ g, v = .slice (some ⟨g, 0, none⟩) 1 1 ∧ wr.heap.size ≤ g ∧ RN W W.heap.size (some ⟨g, 0, none⟩) 1 1 [x]) (fun v a b _ hf _ h => by
  obtain ⟨g, e, hg, hr⟩ := h
  exact ⟨g, e, hg, hr.on hf⟩)
theorem newI_of {x : Int} {c : ClF (firF base wr)} {v : Value} {W : World} (h : c.holds v W) (e : c = newI base wr x) : ∃ g, v = .slice (some ⟨g, 0, none⟩) 1 1 ∧ wr.heap.size ≤ g ∧ RN W W.heap.size (some ⟨g, 0, none⟩) 1 1 [x] := by subst e; exact h
/-- The words' row, one longer. -/
def rowW (base : Nat) (wr : World) (l : List Nat) : ClF (firF base wr) := .pred (fun v W => Own32 W base v l) (fun v a b _ hf _ h => own_keep h hf)
theorem rowW_of {l : List Nat} {c : ClF (firF base wr)} {v : Value} {W : World} (h : c.holds v W) (e : c = rowW base wr l) : Own32 W base v l := by subst e; exact h
def rowI (base : Nat) (wr : World) (l : List Int) : ClF (firF base wr) := .pred (fun v W => OwnI W base v l) (fun v a b _ hf _ h => own_keep h hf)
theorem rowI_of {l : List Int} {c : ClF (firF base wr)} {v : Value} {W : World} (h : c.holds v W) (e : c = rowI base wr l) : OwnI W base v l := by subst e; exact h
/-- A row of words stays where a row of numbers is written, and the other way. -/
theorem own_grown {w w' : World} {b size n : Nat} {e : TypeId} {v : Value} {xs : List Value} {row : Option Nat} (h : w.ownsRow b e size v n xs) (hg : w.grownBy w' row) (hne : ∀ k, v.ownBlock = some k → row ≠ some k) : w'.ownsRow b e size v n xs :=
  World.ownsRow.kept h hg (by
    rcases hv : v.ownBlock with _ | k
    · exact .inl rfl
    · exact .inr fun e => hne k hv e.symm)
/-- What was new in the region stays where an older row is written. -/
theorem newW_grown {W W' : World} {row : Option Nat} {g : Nat} {l : List Nat} (hg : W.grownBy W' row) (hrow : ∀ k, row = some k → k < wr.heap.size) (h0 : wr.heap.size ≤ g) (h1 : R32 W W.heap.size (some ⟨g, 0, none⟩) 1 1 l) : R32 W' W'.heap.size (some ⟨g, 0, none⟩) 1 1 l :=
  ⟨h1.1, h1.2.1, h1.2.2.1, fun hn0 => by
    obtain ⟨b, off, e, hlt', hc⟩ := h1.2.2.2 hn0
    injection e with e
    injection e with e1 e2
    subst e1
    refine ⟨g, off, by rw [e2], by have := hg.size; omega, fun i hi => ?_⟩
    rw [← hc i hi]
    exact World.cell?_of_block (hg.block g hlt' fun e => by have := hrow g e.symm; omega)⟩
theorem newI_grown {W W' : World} {row : Option Nat} {g : Nat} {l : List Int} (hg : W.grownBy W' row) (hrow : ∀ k, row = some k → k < wr.heap.size) (h0 : wr.heap.size ≤ g) (h1 : RN W W.heap.size (some ⟨g, 0, none⟩) 1 1 l) : RN W' W'.heap.size (some ⟨g, 0, none⟩) 1 1 l :=
  ⟨h1.1, h1.2.1, h1.2.2.1, h1.2.2.2.1, fun hn0 => by
    obtain ⟨b, off, e, hlt', hc⟩ := h1.2.2.2.2 hn0
    injection e with e
    injection e with e1 e2
    subst e1
    refine ⟨g, off, by rw [e2], by have := hg.size; omega, fun i v hi => ?_⟩
    rw [← hc i v hi]
    exact World.cell?_of_block (hg.block g hlt' fun e => by have := hrow g e.symm; omega)⟩
theorem run_appendI {w : World} (base : Nat) (v : Value) (l : List Int) (hown : OwnI w base v l) (B : Nat) (A : Option Addr) (m c : Nat) (r : List Int) (hr : RN w B A m c r) (hb : l.length + m ≤ 1000000) (hbase : base ≤ w.heap.size) :
    ∃ v' w', (Builtin.append_ #[23, 23] 23 #[v, .slice A m c]).run Try.prog w = .ok v' w' ∧ OwnI w' base v' (l ++ r) ∧ w.grownBy w' v.ownBlock ∧ (v'.ownBlock = v.ownBlock ∨ v'.ownBlock = some w.heap.size) := by
  obtain ⟨v', w', hrun, ha⟩ := run_appendX (w := w) base 23 23 3 (.int .i64 0) 1 8 Try.underlying23 int_info rfl (by omega) v l.length (l.map iv) hown B A m c (r.map iv) hr.2.2 (iv_one r) (by simp only [maxLen]; omega) (by omega) hbase
  exact ⟨v', w', hrun, by unfold OwnI; rw [List.length_append, hr.1, List.map_append]; exact ha.1, ha.2.1, ha.2.2⟩
theorem tbl_out {F : Frame} {tbl : List (ClF F)} {n j : Nat} (h : tbl.length = n) (hj : n ≤ j) : tblF tbl j = .any := by
  unfold tblF
  rw [List.getElem?_eq_none (by omega)]
  rfl
end
theorem FirAt.push {w : World} {f : Nat} {A A' : Option Addr} {c c' : Nat} {la la' : List Nat} {An An' : Option Addr} {cn cn' : Nat} {ln ln' : List Int} {wr W : World} (h : FirAt w f A c la An cn ln wr) (hb : Below (w.heap.size + 2) wr W) (hs : wr.heap.size ≤ W.heap.size)
    (ho : Own32 W (w.heap.size + 2) (.slice A' la'.length c') la') (hi : OwnI W (w.heap.size + 2) (.slice An' ln'.length cn') ln') :
    FirAt w f A' c' la' An' cn' ln' ((W.setCell ⟨w.heap.size + 1, 4, none⟩ (.slice A' la'.length c')).setCell ⟨w.heap.size + 1, 5, none⟩ (.slice An' ln'.length cn')) := by
  have b0 := h.b0.below hb (by omega)
  have b1 := h.b1.below hb (by omega)
  have hbw := h.below.trans (hb.mono (by omega))
  have k1 := but_setCell W (w.heap.size + 1) 4 (.slice A' la'.length c')
  have k2 := but_setCell (W.setCell ⟨w.heap.size + 1, 4, none⟩ (.slice A' la'.length c')) (w.heap.size + 1) 5 (.slice An' ln'.length cn')
  refine ⟨Below.setCell (Below.setCell hbw (p := ⟨w.heap.size + 1, 4, none⟩) (by simp) _) (p := ⟨w.heap.size + 1, 5, none⟩) (by simp) _, ?_, (b0.far (p := ⟨w.heap.size + 1, 4, none⟩) (by simp) _).far (p := ⟨w.heap.size + 1, 5, none⟩) (by simp) _, ?_, ?_, ?_⟩
  · have := h.size
    have := k1.size
    have := k2.size
    omega
  · have h1 := b1.set_ 4 (.slice A' la'.length c')
    simp only [List.setIfInBounds_toArray, List.set_cons_succ, List.set_cons_zero] at h1
    have h2 := h1.set_ 5 (.slice An' ln'.length cn')
    simpa only [List.setIfInBounds_toArray, List.set_cons_succ, List.set_cons_zero] using h2
  · have e : ∀ k, (Value.slice A' la'.length c').ownBlock = some k → k ≠ w.heap.size + 1 := fun k hk => by have := (World.ownsRow.lt ho k hk).1; omega
    exact own_but (own_but ho k1.size k1.block (fun hh => e _ hh rfl)) k2.size k2.block (fun hh => e _ hh rfl)
  · have e : ∀ k, (Value.slice An' ln'.length cn').ownBlock = some k → k ≠ w.heap.size + 1 := fun k hk => by have := (World.ownsRow.lt hi k hk).1; omega
    exact own_but (own_but hi k1.size k1.block (fun hh => e _ hh rfl)) k2.size k2.block (fun hh => e _ hh rfl)
set_option maxHeartbeats 4000000 in
theorem parse_fir (Ab : Option Addr) (n cb : Nat) (ws : List Nat) (w : World) (h : R8 w w.heap.size Ab n cb (wB ws)) (hw : Small ws) (hn : n ≤ 1000000) :
    Calls Try.prog 57 #[.int .i64 206, .int .i64 4, .slice Ab n cb] w (NewRep w (parseR 206 4 ws)) := by
  have hp : parseR 206 4 ws = ⟨4, ws.getD 0 0, 0, [], absR ws, numsR ws, 0, 0, 0, []⟩ := rfl
  rw [hp]
  clear hp
  have hkn := fun W => ref6_known 206 4 W
  rw [show oursTC 206 4 = true from rfl] at hkn
  have hwl : n = 4 * ws.length := by rw [← h.1, wB_len]; omega
  have h0 := Lib.hid h
  have hb1 : Below w.heap.size w (w.alloc (.cells #[Value.int .i64 0, .int .u32 0, .int .u32 0, .slice none 0 0, .slice none 0 0, .slice none 0 0, .int .u64 0, .int .i64 0, .int .i64 0, .slice none 0 0] 33)) := (Below.refl _ w).alloc (Nat.le_refl _) _
  have hwd := ref6_word Ab n cb ws _ (h.on hb1) hw hn 0 0 rfl (by omega)
  have hf := hw.at 0
  generalize hff : ws.getD 0 0 = f at hwd hf
  have HF0 := Lib.hid hff
  clear hff
  have HWL := Lib.hid hwl
  clear hwl
  go_enter Try.func57, Try.ntmps57
  go_wp2_with fail
  ((with_reducible refine hwd.mono ?_); rintro e w1 ⟨rfl, rfl⟩)
  clear hwd
  go_wp2_with fail
  ((with_reducible refine (hkn _).mono ?_); rintro e w1 ⟨rfl, rfl⟩)
  clear hkn
  go_upto_region 12 with (fail)
  have hbV := hb1.alloc hb1.size (.cells #[Value.int .i64 0, .int .u32 (f : Int), .int .u32 0, .slice none 0 0, .slice none 0 0, .slice none 0 0, .int .u64 0, .int .i64 0, .int .i64 0, .slice none 0 0] 33)
  have hZ0 : Blk ((w.alloc (.cells #[Value.int .i64 0, .int .u32 0, .int .u32 0, .slice none 0 0, .slice none 0 0, .slice none 0 0, .int .u64 0, .int .i64 0, .int .i64 0, .slice none 0 0] 33)).alloc (.cells #[Value.int .i64 0, .int .u32 (f : Int), .int .u32 0, .slice none 0 0, .slice none 0 0, .slice none 0 0, .int .u64 0, .int .i64 0, .int .i64 0, .slice none 0 0] 33)) w.heap.size 33 #[Value.int .i64 0, .int .u32 0, .int .u32 0, .slice none 0 0, .slice none 0 0, .slice none 0 0, .int .u64 0, .int .i64 0, .int .i64 0, .slice none 0 0] := (Blk.new w _ _).alloc _
  have hZ1 : Blk ((w.alloc (.cells #[Value.int .i64 0, .int .u32 0, .int .u32 0, .slice none 0 0, .slice none 0 0, .slice none 0 0, .int .u64 0, .int .i64 0, .int .i64 0, .slice none 0 0] 33)).alloc (.cells #[Value.int .i64 0, .int .u32 (f : Int), .int .u32 0, .slice none 0 0, .slice none 0 0, .slice none 0 0, .int .u64 0, .int .i64 0, .int .i64 0, .slice none 0 0] 33)) (w.heap.size + 1) 33 #[Value.int .i64 0, .int .u32 (f : Int), .int .u32 0, .slice none 0 0, .slice none 0 0, .slice none 0 0, .int .u64 0, .int .i64 0, .int .i64 0, .slice none 0 0] := by
    have h1 := Blk.new (w.alloc (.cells #[Value.int .i64 0, .int .u32 0, .int .u32 0, .slice none 0 0, .slice none 0 0, .slice none 0 0, .int .u64 0, .int .i64 0, .int .i64 0, .slice none 0 0] 33)) 33 #[Value.int .i64 0, .int .u32 (f : Int), .int .u32 0, .slice none 0 0, .slice none 0 0, .slice none 0 0, .int .u64 0, .int .i64 0, .int .i64 0, .slice none 0 0]
    have h2 : (w.alloc (.cells #[Value.int .i64 0, .int .u32 0, .int .u32 0, .slice none 0 0, .slice none 0 0, .slice none 0 0, .int .u64 0, .int .i64 0, .int .i64 0, .slice none 0 0] 33)).heap.size = w.heap.size + 1 := by simp
    rwa [h2] at h1
  have hsV : ((w.alloc (.cells #[Value.int .i64 0, .int .u32 0, .int .u32 0, .slice none 0 0, .slice none 0 0, .slice none 0 0, .int .u64 0, .int .i64 0, .int .i64 0, .slice none 0 0] 33)).alloc (.cells #[Value.int .i64 0, .int .u32 (f : Int), .int .u32 0, .slice none 0 0, .slice none 0 0, .slice none 0 0, .int .u64 0, .int .i64 0, .int .i64 0, .slice none 0 0] 33)).heap.size = w.heap.size + 2 := by simp
  have hRV := h.on hbV
  generalize ((w.alloc (.cells #[Value.int .i64 0, .int .u32 0, .int .u32 0, .slice none 0 0, .slice none 0 0, .slice none 0 0, .int .u64 0, .int .i64 0, .int .i64 0, .slice none 0 0] 33)).alloc (.cells #[Value.int .i64 0, .int .u32 (f : Int), .int .u32 0, .slice none 0 0, .slice none 0 0, .slice none 0 0, .int .u64 0, .int .i64 0, .int .i64 0, .slice none 0 0] 33)) = V at hbV hZ0 hZ1 hsV hRV ⊢
  have HSV := Lib.hid hsV
  have hlt0 : w.heap.size < V.heap.size := by omega
  have hlt1 : w.heap.size + 1 < V.heap.size := by omega
  clear hsV hb1 h
  obtain ⟨p0, p1, p2, p3, p4, p5, p6, p7, p8, p9⟩ := blk10 hZ1
  obtain ⟨q0, q1, q2, q3, q4, q5, q6, q7, q8, q9⟩ := frz10 hZ1
  go_upto_region 23 with (fail)
  have b0 := hZ0.far (p := ⟨w.heap.size + 1, 0, none⟩) (by simp) (.int .i64 4)
  have b1 := hZ1.set_ 0 (.int .i64 4)
  simp only [List.setIfInBounds_toArray, List.set_cons_succ, List.set_cons_zero] at b1
  have hbV := Below.setCell hbV (p := ⟨w.heap.size + 1, 0, none⟩) (by simp) (.int .i64 4)
  have hs1 : (V.setCell ⟨w.heap.size + 1, 0, none⟩ (.int .i64 4)).heap.size = w.heap.size + 2 := by rw [← HSV.out]; simp [World.setCell]
  clear p0 p1 p2 p3 p4 p5 p6 p7 p8 p9 q0 q1 q2 q3 q4 q5 q6 q7 q8 q9 hZ0 hZ1 HSV hlt0 hlt1 hRV
  generalize V.setCell ⟨w.heap.size + 1, 0, none⟩ (.int .i64 4) = V at b0 b1 hbV hs1 ⊢
  have hP : FirAt w f none 0 [] none 0 [] V := ⟨hbV, by omega, b0, b1, World.ownsRow_nil _ _ _ _, World.ownsRow_nil _ _ _ _⟩
  clear b0 b1 hbV hs1
  have hn4 : (n : Int) / 4 = (ws.length : Int) := by have := HWL.out; omega
  have HN4 := Lib.hid hn4
  clear hn4
  have hwlen : ws.length ≤ 250000 := by have := HWL.out; omega
  have HWLEN := Lib.hid hwlen
  clear hwlen
  go_wp2_with fail
  rw [HN4.out]
  go_loopw [11] (fun iv wr => ∃ (q p : Nat) (A : Option Addr) (c : Nat) (An : Option Addr) (cn : Nat), Hid (p = 2 * q + 2) ∧ (p ≤ ws.length + 1 ∨ p = 2) ∧ iv = .int .i64 (p : Int) ∧ FirAt w f A c ((absR ws).take q) An cn ((numsR ws).take q) wr) (fun iv _ => ws.length + 2 - (intOf iv).toNat)
  case atStart => exact ⟨0, 2, none, 0, none, 0, by first | exact Lib.hid rfl | rfl | simp, .inr rfl, rfl, by simpa using hP⟩
  case round =>
    obtain ⟨q, p, A, c, An, cn, HPQ, hpl, rfl, hP⟩ := hrel
    by_cases hlt : p + 1 < ws.length
    · have g3 : decide ((p : Int) + 1 < (ws.length : Int)) = true := by simp; omega
      have hpn : p ≤ 250000 := by have := HWLEN.out; omega
      obtain ⟨y0, y1, y2, y3, y4, y5, y6, y7, y8, y9⟩ := blk10 hP.b1
      have htk := firR_take HPQ.out hlt
      have hxa := hw.at p
      have hxb := hw.at (p + 1)
      have hBW : ∀ W, Below (w.heap.size + 2) wr W → Below w.heap.size w W := fun W hb => hP.below.trans (hb.mono (by omega))
      have hwd := fun W (hb : Below (w.heap.size + 2) wr W) => ref6_word Ab n cb ws W (h0.out.on (hBW W hb)) hw hn p (p : Int) rfl (by omega)
      have hwd1 := fun W (hb : Below (w.heap.size + 2) wr W) => ref6_word Ab n cb ws W (h0.out.on (hBW W hb)) hw hn (p + 1) ((p : Int) + 1) (by simp) (by omega)
      have hll : ((absR ws).take q).length ≤ 250000 := by
        rw [List.length_take, (firR_len ws).1]
        have := HWLEN.out
        omega
      have hln : ((numsR ws).take q).length ≤ 250000 := by
        rw [List.length_take, (firR_len ws).2]
        have := HWLEN.out
        omega
      have hsa : ∀ t ∈ (absR ws).take (q + 1), t < 4294967296 := fun t ht => absR_small hw t (List.mem_of_mem_take ht)
      have hsn : ∀ t ∈ (numsR ws).take (q + 1), I64 t := fun t ht => numsR_in hw t (List.mem_of_mem_take ht)
      have HSA := Lib.hid hsa
      have HSN := Lib.hid hsn
      clear hsa hsn hpl
      generalize ws.getD p 0 = xa at hwd htk hxa
      generalize ws.getD (p + 1) 0 = x at hwd1 htk hxb
      generalize (absR ws).take q = la at hP htk hll y0 y1 y2 y3 y4 y5 y6 y7 y8 y9
      generalize (numsR ws).take q = ln at hP htk hln y0 y1 y2 y3 y4 y5 y6 y7 y8 y9
      generalize hLA : (absR ws).take (q + 1) = la2 at htk HSA
      generalize hLN : (numsR ws).take (q + 1) = ln2 at htk HSN
      have HLA := Lib.hid hLA
      have HLN := Lib.hid hLN
      have HTK := Lib.hid htk
      have hs24 : ((x : Int) / 16777216) = ((x / 16777216 : Nat) : Int) := by simp
      have hz : x / 16777216 ≤ 255 := by omega
      clear hLA hLN htk
      generalize x / 16777216 = Z at HTK hs24 hz
      have HS24 := Lib.hid hs24
      have hg1 : w.heap.size + 1 < w.heap.size + 2 := by omega
      have hbw := hP.size
      have hzi : I64 (Z : Int) := by unfold I64; omega
      clear y0 y1 y2 y3 y6 y7 y8 y9 hs24
      go_upto_region 26 with (fail)
      refine wp_region_s (F := firF (w.heap.size + 2) wr) (fun i => i == 6 || i == 16) (fun i W => if i = 6 then Own32 W (w.heap.size + 2) (.slice A la.length c) la else OwnI W (w.heap.size + 2) (.slice An ln.length cn) ln) 18
        [.val (.pointer (some ⟨w.heap.size + 1, 4, none⟩)), .val (.slice A la.length c), .val (.slice Ab n cb), .val (.int .i64 (p : Int)), .val (.int .u32 (xa : Int)), newW (w.heap.size + 2) wr xa, rowW (w.heap.size + 2) wr la2,
          .val (.pointer (some ⟨w.heap.size + 1, 5, none⟩)), .val (.slice An ln.length cn), .val (.slice Ab n cb), .val (.int .i64 (p : Int)), .val (.int .i64 ((p : Int) + 1)), .val (.int .u32 (x : Int)), .val (.int .u32 (Z : Int)), .val (.int .i64 (Z : Int)), newI (w.heap.size + 2) wr (Z : Int), rowI (w.heap.size + 2) wr ln2, .val (.pointer (some ⟨w.heap.size + 1, 4, none⟩))]
        (by kernel_rfl) (by kernel_rfl) (by kernel_rfl) (by decide) (by kernel_rfl) ⟨below_drewN _ wr 1, Nat.le_refl _⟩ (fun i hi => by
          split
          · exact World.ownsRow.drew hP.oa
          · exact World.ownsRow.drew hP.on) (fun i a b _ _ hf _ hp => by
          split at hp
          · rename_i h6
            rw [if_pos h6]
            exact own_keep hp hf
          · rename_i h6
            rw [if_neg h6]
            exact own_keep hp hf) (AllOblS.upto ⟨?_, ?_, ?_, ?_, ?_, ?_, ?_, ?_, ?_, ?_, ?_, ?_, ?_, ?_, ?_, ?_, ?_, ?_, trivial⟩) ?_ ?_
      · intro _
        refine OblS.pure rfl (.pointer (some ⟨w.heap.size + 1, 4, none⟩)) (by kernel_rfl) rfl fun ev W hI hx => ?_
        have e8 : ev (.tmp 8) = .pointer (some ⟨w.heap.size + 1, 0, none⟩) := holds_valF (hx (.tmp 8)) (by kernel_rfl)
        simp [execOp, e8, go_sem]
      · intro _
        refine OblS.pure rfl (.slice A la.length c) (by kernel_rfl) rfl fun ev W hI hx => ?_
        have e107 : ev (.tmp 107) = .pointer (some ⟨w.heap.size + 1, 4, none⟩) := holds_valF (hx (.tmp 107)) (by kernel_rfl)
        have d4 := (Below.cell (p := ⟨w.heap.size + 1, 4, none⟩) hI.1 hg1).trans y4
        simp [execOp, e107, go_sem, d4]
      · intro _
        exact OblS.move rfl _ (Or.inl rfl) (by kernel_rfl) rfl
      · intro _
        exact OblS.move rfl _ (Or.inl rfl) (by kernel_rfl) rfl
      · intro _
        refine OblS.call rfl 79 #[.tmp 109, .tmp 110] _ rfl Try.f79 Try.func79 (by kernel_rfl) (by kernel_rfl) rfl fun ev W hI hx => ?_
        have e38 : ev (.tmp 109) = .slice Ab n cb := holds_valF (hx (.tmp 109)) (by kernel_rfl)
        have e39 : ev (.tmp 110) = .int .i64 (p : Int) := holds_valF (hx (.tmp 110)) (by kernel_rfl)
        simp only [List.map_toArray, List.map_cons, List.map_nil, e38, e39]
        refine (hwd W hI.1).mono ?_
        rintro e W' ⟨rfl, rfl⟩
        exact ⟨_, rfl, hI, Below.refl _ _, rfl⟩
      · intro _
        refine OblS.step rfl fun ev W hI hx => ?_
        have e40 : ev (.tmp 111) = .int .u32 (xa : Int) := holds_valF (hx (.tmp 111)) (by kernel_rfl)
        refine ⟨.slice (some ⟨W.heap.size, 0, none⟩) 1 1, W.alloc (.cells #[.int .u32 (xa : Int)] 27), ?_, ?_, ?_, ?_⟩
        · simp [execOp, e40, go_sem]
        · exact firF_step hI hbw ((Below.refl W.heap.size W).alloc (Nat.le_refl _) _)
        · exact (Below.refl W.heap.size W).alloc (Nat.le_refl _) _
        · exact ⟨W.heap.size, rfl, hI.2, lit_r32 [xa] _ 1 _ W rfl rfl (by simp [wv]) (by intro z hz; simp at hz; omega)⟩
      · exact fun hh => absurd hh (by decide)
      · intro _
        refine OblS.pure rfl (.pointer (some ⟨w.heap.size + 1, 5, none⟩)) (by kernel_rfl) rfl fun ev W hI hx => ?_
        have e8 : ev (.tmp 8) = .pointer (some ⟨w.heap.size + 1, 0, none⟩) := holds_valF (hx (.tmp 8)) (by kernel_rfl)
        simp [execOp, e8, go_sem]
      · intro _
        refine OblS.pure rfl (.slice An ln.length cn) (by kernel_rfl) rfl fun ev W hI hx => ?_
        have e114 : ev (.tmp 114) = .pointer (some ⟨w.heap.size + 1, 5, none⟩) := holds_valF (hx (.tmp 114)) (by kernel_rfl)
        have d4 := (Below.cell (p := ⟨w.heap.size + 1, 5, none⟩) hI.1 hg1).trans y5
        simp [execOp, e114, go_sem, d4]
      · intro _
        exact OblS.move rfl _ (Or.inl rfl) (by kernel_rfl) rfl
      · intro _
        exact OblS.move rfl _ (Or.inl rfl) (by kernel_rfl) rfl
      · intro _
        refine OblS.pure rfl (.int .i64 ((p : Int) + 1)) (by kernel_rfl) rfl fun ev W hI hx => ?_
        have e117 : ev (.tmp 117) = .int .i64 (p : Int) := holds_valF (hx (.tmp 117)) (by kernel_rfl)
        have k0 : ev (.const (.int .i64 1)) = .int .i64 1 := holds_valF (hx (.const (.int .i64 1))) (by kernel_rfl)
        have hn2 : IntKind.i64.wrap ((p : Int) + 1) = (p : Int) + 1 := by rw [IntKind.wrap_i64]; omega
        simp [execOp, e117, k0, go_sem, hn2]
      · intro _
        refine OblS.call rfl 79 #[.tmp 116, .tmp 118] _ rfl Try.f79 Try.func79 (by kernel_rfl) (by kernel_rfl) rfl fun ev W hI hx => ?_
        have e38 : ev (.tmp 116) = .slice Ab n cb := holds_valF (hx (.tmp 116)) (by kernel_rfl)
        have e39 : ev (.tmp 118) = .int .i64 ((p : Int) + 1) := holds_valF (hx (.tmp 118)) (by kernel_rfl)
        simp only [List.map_toArray, List.map_cons, List.map_nil, e38, e39]
        refine (hwd1 W hI.1).mono ?_
        rintro e W' ⟨rfl, rfl⟩
        exact ⟨_, rfl, hI, Below.refl _ _, rfl⟩
      · intro _
        refine OblS.pure rfl (.int .u32 (Z : Int)) (by kernel_rfl) rfl fun ev W hI hx => ?_
        have e119 : ev (.tmp 119) = .int .u32 (x : Int) := holds_valF (hx (.tmp 119)) (by kernel_rfl)
        have k0 : ev (.const (.int .u64 24)) = .int .u64 24 := holds_valF (hx (.const (.int .u64 24))) (by kernel_rfl)
        simp [execOp, e119, k0, go_sem, HS24.out]
      · intro _
        refine OblS.pure rfl (.int .i64 (Z : Int)) (by kernel_rfl) rfl fun ev W hI hx => ?_
        have e120 : ev (.tmp 120) = .int .u32 (Z : Int) := holds_valF (hx (.tmp 120)) (by kernel_rfl)
        have hn2 : IntKind.i64.wrap (Z : Int) = (Z : Int) := by rw [IntKind.wrap_i64]; omega
        simp [execOp, e120, go_sem, hn2]
      · intro _
        refine OblS.step rfl fun ev W hI hx => ?_
        have e40 : ev (.tmp 121) = .int .i64 (Z : Int) := holds_valF (hx (.tmp 121)) (by kernel_rfl)
        refine ⟨.slice (some ⟨W.heap.size, 0, none⟩) 1 1, W.alloc (.cells #[.int .i64 (Z : Int)] 3), ?_, ?_, ?_, ?_⟩
        · simp [execOp, e40, go_sem]
        · exact firF_step hI hbw ((Below.refl W.heap.size W).alloc (Nat.le_refl _) _)
        · exact (Below.refl W.heap.size W).alloc (Nat.le_refl _) _
        · exact ⟨W.heap.size, rfl, hI.2, lit_rn (Z : Int) hzi W⟩
      · exact fun hh => absurd hh (by decide)
      · intro _
        refine OblS.pure rfl (.pointer (some ⟨w.heap.size + 1, 4, none⟩)) (by kernel_rfl) rfl fun ev W hI hx => ?_
        have e8 : ev (.tmp 8) = .pointer (some ⟨w.heap.size + 1, 0, none⟩) := holds_valF (hx (.tmp 8)) (by kernel_rfl)
        simp [execOp, e8, go_sem]
      · intro i oo him hsp hoo
        have hi2 : i = 6 ∨ i = 16 := by simpa using hsp
        have hka : ∀ k, (Value.slice A la.length c).ownBlock = some k → w.heap.size + 2 ≤ k ∧ k < wr.heap.size := fun k hk => World.ownsRow.lt hP.oa k hk
        have hkn : ∀ k, (Value.slice An ln.length cn).ownBlock = some k → w.heap.size + 2 ≤ k ∧ k < wr.heap.size := fun k hk => World.ownsRow.lt hP.on k hk
        rcases hi2 with rfl | rfl
        · obtain rfl := (Option.some.inj hoo).symm
          refine OblX.step rfl fun ev W hI hpre hx => ?_
          have hpre : Own32 W (w.heap.size + 2) (.slice A la.length c) la := hpre
          have e108 : ev (.tmp 108) = .slice A la.length c := holds_valF (hx (.tmp 108)) (by kernel_rfl)
          obtain ⟨gw, e112, hgw, hr⟩ := newW_of (x := xa) (hx (.tmp 112)) (by kernel_rfl)
          obtain ⟨v', W', hrun, ho', hg', hd'⟩ := run_append32 (w.heap.size + 2) _ la hpre W.heap.size (some ⟨gw, 0, none⟩) 1 1 [xa] hr (by omega) (Nat.le_trans hbw hI.2)
          refine ⟨v', W', run_op_append (.tmp 108) (.tmp 112) 29 29 rfl rfl _ _ _ _ _ e108 e112 hrun, ⟨below_grown hI.1 (Nat.le_trans hbw hI.2) hg' (fun k hk => (hka k hk).1), Nat.le_trans hI.2 hg'.size⟩, ?_, ?_, ?_⟩
          · intro j u hj hh
            by_cases hj18 : j < 18
            · have : j = 5 ∨ j = 15 ∨ j = 16 ∨ j = 0 ∨ j = 1 ∨ j = 2 ∨ j = 3 ∨ j = 4 ∨ j = 7 ∨ j = 8 ∨ j = 9 ∨ j = 10 ∨ j = 11 ∨ j = 12 ∨ j = 13 ∨ j = 14 ∨ j = 17 := by omega
              rcases this with rfl | rfl | rfl | this
              · obtain ⟨g, e, h1, h2⟩ := newW_of (x := xa) hh rfl
                exact ⟨g, e, h1, newW_grown (wr := wr) hg' (fun k hk => (hka k hk).2) h1 h2⟩
              · obtain ⟨g, e, h1, h2⟩ := newI_of (x := (Z : Int)) hh rfl
                exact ⟨g, e, h1, newI_grown (wr := wr) hg' (fun k hk => (hka k hk).2) h1 h2⟩
              · have h1 := rowI_of (l := ln2) hh rfl
                exact own_grown h1 hg' (fun k hk hk' => own_ne hpre h1 k hk' hk)
              · rcases this with rfl | rfl | rfl | rfl | rfl | rfl | rfl | rfl | rfl | rfl | rfl | rfl | rfl | rfl <;> exact hh
            · rw [tbl_out (n := 18) rfl (by omega)]
              trivial
          · intro j hj hsj hp
            have : j = 16 := by
              have : j = 6 ∨ j = 16 := by simpa using hsj
              omega
            subst this
            have hp : OwnI W (w.heap.size + 2) (.slice An ln.length cn) ln := hp
            exact own_grown hp hg' (fun k hk hk' => own_ne hpre hp k hk' hk)
          · show Own32 W' (w.heap.size + 2) v' la2
            rw [← HTK.out.1]
            exact ho'
        · obtain rfl := (Option.some.inj hoo).symm
          refine OblX.step rfl fun ev W hI hpre hx => ?_
          have hpre : OwnI W (w.heap.size + 2) (.slice An ln.length cn) ln := hpre
          have e115 : ev (.tmp 115) = .slice An ln.length cn := holds_valF (hx (.tmp 115)) (by kernel_rfl)
          obtain ⟨gw, e122, hgw, hr⟩ := newI_of (x := (Z : Int)) (hx (.tmp 122)) (by kernel_rfl)
          obtain ⟨v', W', hrun, ho', hg', hd'⟩ := run_appendI (w.heap.size + 2) _ ln hpre W.heap.size (some ⟨gw, 0, none⟩) 1 1 [(Z : Int)] hr (by omega) (Nat.le_trans hbw hI.2)
          refine ⟨v', W', run_op_append (.tmp 115) (.tmp 122) 23 23 rfl rfl _ _ _ _ _ e115 e122 hrun, ⟨below_grown hI.1 (Nat.le_trans hbw hI.2) hg' (fun k hk => (hkn k hk).1), Nat.le_trans hI.2 hg'.size⟩, ?_, ?_, ?_⟩
          · intro j u hj hh
            by_cases hj18 : j < 18
            · have : j = 5 ∨ j = 15 ∨ j = 6 ∨ j = 0 ∨ j = 1 ∨ j = 2 ∨ j = 3 ∨ j = 4 ∨ j = 7 ∨ j = 8 ∨ j = 9 ∨ j = 10 ∨ j = 11 ∨ j = 12 ∨ j = 13 ∨ j = 14 ∨ j = 17 := by omega
              rcases this with rfl | rfl | rfl | this
              · obtain ⟨g, e, h1, h2⟩ := newW_of (x := xa) hh rfl
                exact ⟨g, e, h1, newW_grown (wr := wr) hg' (fun k hk => (hkn k hk).2) h1 h2⟩
              · obtain ⟨g, e, h1, h2⟩ := newI_of (x := (Z : Int)) hh rfl
                exact ⟨g, e, h1, newI_grown (wr := wr) hg' (fun k hk => (hkn k hk).2) h1 h2⟩
              · have h1 := rowW_of (l := la2) hh rfl
                exact own_grown h1 hg' (fun k hk hk' => own_ne h1 hpre k hk hk')
              · rcases this with rfl | rfl | rfl | rfl | rfl | rfl | rfl | rfl | rfl | rfl | rfl | rfl | rfl | rfl <;> exact hh
            · rw [tbl_out (n := 18) rfl (by omega)]
              trivial
          · intro j hj hsj hp
            have : j = 6 := by
              have : j = 6 ∨ j = 16 := by simpa using hsj
              omega
            subst this
            have hp : Own32 W (w.heap.size + 2) (.slice A la.length c) la := hp
            exact own_grown hp hg' (fun k hk hk' => own_ne hp hpre k hk hk')
          · show OwnI W' (w.heap.size + 2) v' ln2
            rw [← HTK.out.2]
            exact ho'
      intro aa W hI hsz hdf hold hv
      have o113 : Own32 W (w.heap.size + 2) (aa.tmps.getD 113 undef) la2 := rowW_of (hv 6 (by decide)) (by kernel_rfl)
      have o123 : OwnI W (w.heap.size + 2) (aa.tmps.getD 123 undef) ln2 := rowI_of (hv 16 (by decide)) (by kernel_rfl)
      have v124 : aa.tmps.getD 124 undef = .pointer (some ⟨w.heap.size + 1, 4, none⟩) := holds_valF (hv 17 (by decide)) (by kernel_rfl)
      obtain ⟨A7, c7, v113, _⟩ := o113.r32 HSA.out
      obtain ⟨A8, c8, v123, _⟩ := o123.rn HSN.out
      rw [v113] at o113
      rw [v123] at o123
      have ha := act_puts [107, 108, 109, 110, 111, 112, 113, 114, 115, 116, 117, 118, 119, 120, 121, 122, 123, 124, 125] (by kernel_rfl) hsz hdf hold
      simp only [putAll, v113, v123, v124] at ha
      generalize aa.tmps.getD 107 undef = x107 at ha
      generalize aa.tmps.getD 108 undef = x108 at ha
      generalize aa.tmps.getD 109 undef = x109 at ha
      generalize aa.tmps.getD 110 undef = x110 at ha
      generalize aa.tmps.getD 111 undef = x111 at ha
      generalize aa.tmps.getD 112 undef = x112 at ha
      generalize aa.tmps.getD 114 undef = x114 at ha
      generalize aa.tmps.getD 115 undef = x115 at ha
      generalize aa.tmps.getD 116 undef = x116 at ha
      generalize aa.tmps.getD 117 undef = x117 at ha
      generalize aa.tmps.getD 118 undef = x118 at ha
      generalize aa.tmps.getD 119 undef = x119 at ha
      generalize aa.tmps.getD 120 undef = x120 at ha
      generalize aa.tmps.getD 121 undef = x121 at ha
      generalize aa.tmps.getD 122 undef = x122 at ha
      generalize aa.tmps.getD 125 undef = x125 at ha
      clear v113 v123 v124 hv hold hsz hdf
      subst ha
      simp only [List.toList_toArray, List.drop_succ_cons, List.drop_zero, Act.put, List.setIfInBounds_toArray, List.set_cons_succ, List.set_cons_zero]
      have hPW := hP.push hI.1 hI.2 o113 o123
      obtain ⟨k0, k1, k2, k3, k4, k5, k6, k7, k8, k9⟩ := blk10 (hP.b1.below hI.1 (by omega))
      obtain ⟨z0, z1, z2, z3, z4, z5, z6, z7, z8, z9⟩ := frz10 (hP.b1.below hI.1 (by omega))
      have hpl : p + 2 ≤ ws.length + 1 := by omega
      have hpq : p + 2 = 2 * (q + 1) + 2 := by have := HPQ.out; omega
      have HPQ2 : Hid (p + 2 = 2 * (q + 1) + 2) := Lib.hid hpq
      clear hI hP y4 y5 hll hln hwd hwd1 hBW hpq o113 o123 k0 k1 k2 k3 k6 k7 k8 k9 z0 z1 z2 z3 z6 z7 z8 z9
      go_wp2_with fail
      go_roundw
      case rel => exact ⟨q + 1, p + 2, A7, c7, A8, c8, HPQ2, .inl hpl, by go_num, by rw [HLA.out, HLN.out]; exact hPW⟩
      case measure => simp [intOf]; omega
    · have g3 : ¬ (p : Int) + 1 < (ws.length : Int) := by omega
      have hpn : p ≤ 300000 := by have := HWLEN.out; omega
      have hq2 : (absR ws).length ≤ q ∧ (numsR ws).length ≤ q := by
        rw [(firR_len ws).1, (firR_len ws).2]
        have := HPQ.out
        omega
      rw [List.take_of_length_le hq2.1, List.take_of_length_le hq2.2] at hP
      have hsa := absR_small hw
      have hsn := numsR_in hw
      have hda : (absR ws).length ≤ 1000000 := by have := HWLEN.out; rw [(firR_len ws).1]; omega
      have hdn : (numsR ws).length ≤ 1000000 := by have := HWLEN.out; rw [(firR_len ws).2]; omega
      clear hq2
      generalize hDA : absR ws = la at hP hsa hda
      generalize hDN : numsR ws = ln at hP hsn hdn
      have HDA := Lib.hid hDA
      have HDN := Lib.hid hDN
      clear hDA hDN
      obtain ⟨p0, p1, p2, p3, p4, p5, p6, p7, p8, p9⟩ := blk10 hP.b1
      obtain ⟨y0, y1, y2, y3, y4, y5, y6, y7, y8, y9⟩ := blk10 hP.b0
      obtain ⟨z0, z1, z2, z3, z4, z5, z6, z7, z8, z9⟩ := frz10 hP.b0
      go_wp2_with fail
      have hbW := hP.below
      have hZ0 := hP.b0
      have hAr := own_block hP.oa
      have hNr := own_block hP.on
      obtain ⟨A6, c6, e6, r6⟩ := hP.oa.r32 hsa
      injection e6 with e6 _ e7
      subst e6
      subst e7
      obtain ⟨A5, c5, e5, r5⟩ := hP.on.rn hsn
      injection e5 with e5 _ e4
      subst e5
      subst e4
      have hXW : IsR wr wr.heap.size ⟨⟨4, f, 0, [], la, ln, 0, 0, 0, []⟩, none, 0, A, c, An, cn, none, 0⟩ := ⟨RT.nil _ _ _ _, r6, r5, R8.nil _ _ _ _, Rep.In.of (i64_small (by omega)) hf (by omega) (by omega) (i64_small (by omega)) (i64_small (by omega)) (by simp) (by omega) (by omega) (by simp)⟩
      have hoff : Rv.Off ⟨⟨4, f, 0, [], la, ln, 0, 0, 0, []⟩, none, 0, A, c, An, cn, none, 0⟩ w.heap.size := by
        intro ad had
        rcases had with had | had | had | had
        · cases had
        · have := hAr ad had; omega
        · have := hNr ad had; omega
        · cases had
      have hty : Rv.Typed ⟨⟨4, f, 0, [], la, ln, 0, 0, 0, []⟩, none, 0, A, c, An, cn, none, 0⟩ wr := by
        intro ad had
        rcases had with had | had | had | had
        · cases had
        · exact own_typed hP.oa (by decide) ad had
        · exact own_typed hP.on (by decide) ad had
        · cases had
      have hlies : Rv.Lies ⟨⟨4, f, 0, [], la, ln, 0, 0, 0, []⟩, none, 0, A, c, An, cn, none, 0⟩ w.heap.size wr.heap.size := by
        intro ad had
        rcases had with had | had | had | had
        · cases had
        · have := hAr ad had; omega
        · have := hNr ad had; omega
        · cases had
      have hF := set10_blk (W := wr) (v0 := .int .i64 4) (v1 := .int .u32 (f : Int)) (v2 := .int .u32 0) (v3 := .slice none 0 0) (v4 := .slice A la.length c) (v5 := .slice An ln.length cn) (v6 := .int .u64 0) (v7 := .int .i64 0) (v8 := .int .i64 0) (v9 := .slice none 0 0) hZ0
      have hG : Below w.heap.size w (set10 (wr) w.heap.size (.int .i64 4) (.int .u32 (f : Int)) (.int .u32 0) (.slice none 0 0) (.slice A la.length c) (.slice An ln.length cn) (.int .u64 0) (.int .i64 0) (.int .i64 0) (.slice none 0 0)) := hbW.trans (set10_below (Nat.le_refl _))
      have hX := hXW.but (but_set10 (wr) w.heap.size (.int .i64 4) (.int .u32 (f : Int)) (.int .u32 0) (.slice none 0 0) (.slice A la.length c) (.slice An ln.length cn) (.int .u64 0) (.int .i64 0) (.int .i64 0) (.slice none 0 0)) hoff
      have hTy := hty.same (w' := set10 (wr) w.heap.size (.int .i64 4) (.int .u32 (f : Int)) (.int .u32 0) (.slice none 0 0) (.slice A la.length c) (.slice An ln.length cn) (.int .u64 0) (.int .i64 0) (.int .i64 0) (.slice none 0 0)) hoff (fun k hk => set10_far hk)
      have hS : (set10 (wr) w.heap.size (.int .i64 4) (.int .u32 (f : Int)) (.int .u32 0) (.slice none 0 0) (.slice A la.length c) (.slice An ln.length cn) (.int .u64 0) (.int .i64 0) (.int .i64 0) (.slice none 0 0)).heap.size = (wr).heap.size := set10_size
      rw [← hS] at hlies
      clear hS
      change bodyPost _ _ _ _ _ (set10 (wr) w.heap.size (.int .i64 4) (.int .u32 (f : Int)) (.int .u32 0) (.slice none 0 0) (.slice A la.length c) (.slice An ln.length cn) (.int .u64 0) (.int .i64 0) (.int .i64 0) (.slice none 0 0))
      generalize set10 (wr) w.heap.size (.int .i64 4) (.int .u32 (f : Int)) (.int .u32 0) (.slice none 0 0) (.slice A la.length c) (.slice An ln.length cn) (.int .u64 0) (.int .i64 0) (.int .i64 0) (.slice none 0 0) = WF at hF hG hX hlies hTy ⊢
      obtain ⟨f0, f1, f2, f3, f4, f5, f6, f7, f8, f9⟩ := blk10 hF
      clear y0 y1 y2 y3 y4 y5 y6 y7 y8 y9 z0 z1 z2 z3 z4 z5 z6 z7 z8 z9 p0 p1 p2 p3 p4 p5 p6 p7 p8 p9
      refine bodyPost_ret (by simp [results, Try.results57, go_sem, f0, f1, f2, f3, f4, f5, f6, f7, f8, f9]; try rfl) rfl ?_
      exact ⟨⟨⟨4, f, 0, [], la, ln, 0, 0, 0, []⟩, none, 0, A, c, An, cn, none, 0⟩, rfl, by rw [HDA.out, HDN.out], hX, hlies, hTy, hG⟩
end Go.Proofs.Ytnchgmemajmkjaa
