/- Contract: ctl.lay. Contract: ctl.lay, of a layer: the region that draws its order. Contract: ctl.gather. -/
import Derived.Test.YtgjncaobcgjefaaClR
import Derived.Test.YtgjncaobcgjefaaRegS
namespace Go.Proofs.Ytgjncaobcgjefaa
open Go.RowKit
set_option linter.unusedVariables false
set_option linter.unusedSimpArgs false
set_option maxRecDepth 20000

/-- A message that is gathered: its cells in block R, its layers in a row of their own behind it. -/
structure GMem (w0 : World) (R : Nat) (c : Ctl) (v : Value) (W : World) : Prop where
  blk : Blk W R 25 #[.int .i64 c.kind, .int .i64 c.cap, v, .int .i64 c.peer, .int .i64 c.height, .int .i64 c.cls, .int .i64 c.layer, .int .i64 c.code]
  own : OwnL W (R + 1) v c.layers
  below : Below w0.heap.size w0 W
  lo : w0.heap.size ≤ R
def LayPost (w0 : World) (R : Nat) (c : Ctl) (e : Ending) (w' : World) : Prop := e = .returned (.tuple #[]) ∧ ∃ v', GMem w0 R c v' w'
theorem blk8c {W : World} {R : Nat} {t : TypeId} {v0 v1 v2 v3 v4 v5 v6 v7 : Value} (h : Blk W R t #[v0, v1, v2, v3, v4, v5, v6, v7]) : W.cell? ⟨R, 0, none⟩ = some v0 ∧ W.cell? ⟨R, 1, none⟩ = some v1 ∧ W.cell? ⟨R, 2, none⟩ = some v2 ∧ W.cell? ⟨R, 3, none⟩ = some v3 ∧ W.cell? ⟨R, 4, none⟩ = some v4 ∧ W.cell? ⟨R, 5, none⟩ = some v5 ∧ W.cell? ⟨R, 6, none⟩ = some v6 ∧ W.cell? ⟨R, 7, none⟩ = some v7 := blk8 h
theorem own_set8 {w : World} {size n L i : Nat} {e : TypeId} {v : Value} {xs : List Value} (h : w.ownsRow (L + 1) e size v n xs) (u : Value) : (w.setCell ⟨L, i, none⟩ u).ownsRow (L + 1) e size v n xs :=
  ownsRow_setCell_other h (a := ⟨L, i, none⟩) (fun e => by have := (World.ownsRow.lt h _ e).1; simp only at this; omega) _
set_option maxHeartbeats 4000000 in
theorem lay_num (k : Nat) (hk2 : k = 1 ∨ k = 3 ∨ k = 4 ∨ k = 5 ∨ k = 6 ∨ k = 7) (w0 : World) (R : Nat) (c : Ctl) (v : Value) (W : World) (hG : GMem w0 R c v W) (A : Option Addr) (n cp : Nat) (x : List UInt8) (h : R8 W W.heap.size A n cp x) (hn : n ≤ 100000) :
    Calls Try.prog 41 #[.pointer (some ⟨R, 0, none⟩), .int .i64 (k : Int), .slice A n cp] W (LayPost w0 R (c.lay k x)) := by
  have hg := get_any A n cp x W h (by omega) 0 n (by unfold I64; omega)
  have eN : numB x = getN x 0 n := by unfold numB; rw [h.1]
  have EK : ∀ m, c.lay m x = (if m = 1 then { c with cap := wrap64 (getN x 0 n) } else if m = 2 then { c with layers := c.layers ++ [layX x] } else if m = 3 then { c with peer := wrap64 (getN x 0 n) } else if m = 4 then { c with height := wrap64 (getN x 0 n) } else
    if m = 5 then { c with cls := wrap64 (getN x 0 n) } else if m = 6 then { c with layer := wrap64 (getN x 0 n) } else if m = 7 then { c with code := wrap64 (getN x 0 n) } else c) := fun m => by unfold Ctl.lay; rw [eN]
  generalize getN x 0 n = N at hg EK
  generalize getB n 0 n = B at hg
  have y1 : IntKind.i64.wrap (N : Int) = wrap64 N := by rw [IntKind.wrap_i64, wrap64]
  generalize wrap64 (N : Int) = V at y1 EK
  have hB := hG.blk
  have hO := hG.own
  have hlo := hG.lo
  have hbw := hG.below
  clear eN h hG
  have hRl := hB.lt
  rcases hk2 with rfl | rfl | rfl | rfl | rfl | rfl
  · rw [EK 1]
    clear EK
    have hP : GMem w0 R { c with cap := V } v (W.setCell ⟨R, 1, none⟩ (.int .i64 V)) := ⟨by
      have := hB.set_ 1 (.int .i64 V)
      simpa only [List.setIfInBounds_toArray, List.set_cons_succ, List.set_cons_zero] using this, own_set8 hO _, hbw.setCell hlo _, hlo⟩
    have HP := Lib.hid hP
    clear hP
    obtain ⟨kk, p, l, e, ht, s, y, d⟩ := c
    simp only at hB HP
    obtain ⟨k0, k1, k2, k3, k4, k5, k6, k7⟩ := blk8c hB
    have f1 := hB.frozen 1
    clear hO hbw
    go_enter Try.func41, Try.ntmps41
    go_wp2_with fail
    refine hg.mono ?_
    rintro e' w' ⟨rfl, rfl⟩
    go_wp2_with fail
    refine bodyPost_end (results_none Try.results41 _ _ _) rfl ?_
    exact ⟨rfl, v, HP.out⟩
  · rw [EK 3]
    clear EK
    have hP : GMem w0 R { c with peer := V } v (W.setCell ⟨R, 3, none⟩ (.int .i64 V)) := ⟨by
      have := hB.set_ 3 (.int .i64 V)
      simpa only [List.setIfInBounds_toArray, List.set_cons_succ, List.set_cons_zero] using this, own_set8 hO _, hbw.setCell hlo _, hlo⟩
    have HP := Lib.hid hP
    clear hP
    obtain ⟨kk, p, l, e, ht, s, y, d⟩ := c
    simp only at hB HP
    obtain ⟨k0, k1, k2, k3, k4, k5, k6, k7⟩ := blk8c hB
    have f1 := hB.frozen 3
    clear hO hbw
    go_enter Try.func41, Try.ntmps41
    go_wp2_with fail
    refine hg.mono ?_
    rintro e' w' ⟨rfl, rfl⟩
    go_wp2_with fail
    refine bodyPost_end (results_none Try.results41 _ _ _) rfl ?_
    exact ⟨rfl, v, HP.out⟩
  · rw [EK 4]
    clear EK
    have hP : GMem w0 R { c with height := V } v (W.setCell ⟨R, 4, none⟩ (.int .i64 V)) := ⟨by
      have := hB.set_ 4 (.int .i64 V)
      simpa only [List.setIfInBounds_toArray, List.set_cons_succ, List.set_cons_zero] using this, own_set8 hO _, hbw.setCell hlo _, hlo⟩
    have HP := Lib.hid hP
    clear hP
    obtain ⟨kk, p, l, e, ht, s, y, d⟩ := c
    simp only at hB HP
    obtain ⟨k0, k1, k2, k3, k4, k5, k6, k7⟩ := blk8c hB
    have f1 := hB.frozen 4
    clear hO hbw
    go_enter Try.func41, Try.ntmps41
    go_wp2_with fail
    refine hg.mono ?_
    rintro e' w' ⟨rfl, rfl⟩
    go_wp2_with fail
    refine bodyPost_end (results_none Try.results41 _ _ _) rfl ?_
    exact ⟨rfl, v, HP.out⟩
  · rw [EK 5]
    clear EK
    have hP : GMem w0 R { c with cls := V } v (W.setCell ⟨R, 5, none⟩ (.int .i64 V)) := ⟨by
      have := hB.set_ 5 (.int .i64 V)
      simpa only [List.setIfInBounds_toArray, List.set_cons_succ, List.set_cons_zero] using this, own_set8 hO _, hbw.setCell hlo _, hlo⟩
    have HP := Lib.hid hP
    clear hP
    obtain ⟨kk, p, l, e, ht, s, y, d⟩ := c
    simp only at hB HP
    obtain ⟨k0, k1, k2, k3, k4, k5, k6, k7⟩ := blk8c hB
    have f1 := hB.frozen 5
    clear hO hbw
    go_enter Try.func41, Try.ntmps41
    go_wp2_with fail
    refine hg.mono ?_
    rintro e' w' ⟨rfl, rfl⟩
    go_wp2_with fail
    refine bodyPost_end (results_none Try.results41 _ _ _) rfl ?_
    exact ⟨rfl, v, HP.out⟩
  · rw [EK 6]
    clear EK
    have hP : GMem w0 R { c with layer := V } v (W.setCell ⟨R, 6, none⟩ (.int .i64 V)) := ⟨by
      have := hB.set_ 6 (.int .i64 V)
      simpa only [List.setIfInBounds_toArray, List.set_cons_succ, List.set_cons_zero] using this, own_set8 hO _, hbw.setCell hlo _, hlo⟩
    have HP := Lib.hid hP
    clear hP
    obtain ⟨kk, p, l, e, ht, s, y, d⟩ := c
    simp only at hB HP
    obtain ⟨k0, k1, k2, k3, k4, k5, k6, k7⟩ := blk8c hB
    have f1 := hB.frozen 6
    clear hO hbw
    go_enter Try.func41, Try.ntmps41
    go_wp2_with fail
    refine hg.mono ?_
    rintro e' w' ⟨rfl, rfl⟩
    go_wp2_with fail
    refine bodyPost_end (results_none Try.results41 _ _ _) rfl ?_
    exact ⟨rfl, v, HP.out⟩
  · rw [EK 7]
    clear EK
    have hP : GMem w0 R { c with code := V } v (W.setCell ⟨R, 7, none⟩ (.int .i64 V)) := ⟨by
      have := hB.set_ 7 (.int .i64 V)
      simpa only [List.setIfInBounds_toArray, List.set_cons_succ, List.set_cons_zero] using this, own_set8 hO _, hbw.setCell hlo _, hlo⟩
    have HP := Lib.hid hP
    clear hP
    obtain ⟨kk, p, l, e, ht, s, y, d⟩ := c
    simp only at hB HP
    obtain ⟨k0, k1, k2, k3, k4, k5, k6, k7⟩ := blk8c hB
    have f1 := hB.frozen 7
    clear hO hbw
    go_enter Try.func41, Try.ntmps41
    go_wp2_with fail
    refine hg.mono ?_
    rintro e' w' ⟨rfl, rfl⟩
    go_wp2_with fail
    refine bodyPost_end (results_none Try.results41 _ _ _) rfl ?_
    exact ⟨rfl, v, HP.out⟩
set_option maxHeartbeats 4000000 in
theorem lay_none (k : Nat) (hk : k = 0 ∨ 7 < k) (hk8 : k < 256) (w0 : World) (R : Nat) (c : Ctl) (v : Value) (W : World) (hG : GMem w0 R c v W) (A : Option Addr) (n cp : Nat) (x : List UInt8) (h : R8 W W.heap.size A n cp x) (hn : n ≤ 100000) :
    Calls Try.prog 41 #[.pointer (some ⟨R, 0, none⟩), .int .i64 (k : Int), .slice A n cp] W (LayPost w0 R (c.lay k x)) := by
  have hg := get_any A n cp x W h (by omega) 0 n (by unfold I64; omega)
  have EK : c.lay k x = c := by
    unfold Ctl.lay
    repeat rw [if_neg (by omega)]
  rw [EK]
  clear EK
  generalize getN x 0 n = N at hg
  generalize getB n 0 n = B at hg
  have e1 : ((k : Int) == 1) = false := by simp; omega
  have e2 : ((k : Int) == 2) = false := by simp; omega
  have e3 : ((k : Int) == 3) = false := by simp; omega
  have e4 : ((k : Int) == 4) = false := by simp; omega
  have e5 : ((k : Int) == 5) = false := by simp; omega
  have e6 : ((k : Int) == 6) = false := by simp; omega
  have e7 : ((k : Int) == 7) = false := by simp; omega
  have HP := Lib.hid hG
  clear hG h hk
  go_enter Try.func41, Try.ntmps41
  go_wp2_with fail
  refine hg.mono ?_
  rintro e' w' ⟨rfl, rfl⟩
  go_wp2_with fail
  refine bodyPost_end (results_none Try.results41 _ _ _) rfl ?_
  exact ⟨rfl, v, HP.out⟩
end Go.Proofs.Ytgjncaobcgjefaa
namespace Go.Proofs.Ytgjncaobcgjefaa
open Go.RowKit
set_option linter.unusedVariables false
set_option linter.unusedSimpArgs false
set_option maxRecDepth 20000

theorem run_op_append8 {o : Oper} {ev : Operand → Value} {w w' : World} (s x : Operand) (t ty : TypeId) (ho : o.op = .call { callee := .builtin .append, args := #[s, x], argTypes := #[t, t] }) (hty : o.type = ty) (v v' : Value) (A : Option Addr) (m c : Nat)
    (hs : ev s = v) (hx : ev x = .slice A m c) (hrun : (Builtin.append_ #[t, t] ty #[v, .slice A m c]).run Try.prog w = .ok v' w') : (execOp ev o).run Try.prog w = .ok (.value v') w' := by
  unfold execOp
  simp only [ho, hty, resolve, invoke, builtin, Sem.run_bind, Sem.run_pure, Result.andThen_ok, List.map_toArray, List.map_cons, List.map_nil, hs, hx, hrun]
theorem tbl_out8 {F : Frame} {tbl : List (ClF F)} {n j : Nat} (h : tbl.length = n) (hj : n ≤ j) : tblF tbl j = .any := by
  unfold tblF
  rw [List.getElem?_eq_none (by omega)]
  rfl
/-- Beside a row of bytes that is read. -/
def lyF (base : Nat) (wr : World) (A : Option Addr) (n cp : Nat) (x : List UInt8) : Frame where
  I := fun W => Below base wr W ∧ wr.heap.size ≤ W.heap.size ∧ R8 W W.heap.size A n cp x
  Fr := fun a b => Below a.heap.size a b
  refl := fun w _ => Below.refl _ w
  trans := fun a b c h k => h.trans (k.mono h.size)
  drew := fun W h => ⟨⟨h.1.trans (below_drewN _ W 1), h.2.1, h.2.2.drewN 1⟩, below_drewN _ W 1⟩
section
variable {base : Nat} {wr : World} {A : Option Addr} {n cp : Nat} {x : List UInt8}
theorem lyF_step {W W' : World} (h : (lyF base wr A n cp x).I W) (hbw : base ≤ wr.heap.size) (hb : Below W.heap.size W W') : (lyF base wr A n cp x).I W' :=
  ⟨h.1.trans (hb.mono (Nat.le_trans hbw h.2.1)), Nat.le_trans h.2.1 hb.size, h.2.2.on hb⟩
def newL (base : Nat) (wr : World) (A : Option Addr) (n cp : Nat) (x : List UInt8) (y : Lay) : ClF (lyF base wr A n cp x) := .pred (fun v W => ∃ g, v = .slice (some ⟨g, 0, none⟩) 1 1 ∧ wr.heap.size ≤ g ∧ RL W W.heap.size (some ⟨g, 0, none⟩) 1 1 [y]) (fun v a b _ hf _ h => by
  obtain ⟨g, e, hg, hr⟩ := h
  exact ⟨g, e, hg, hr.on hf⟩)
theorem newL_of {y : Lay} {c : ClF (lyF base wr A n cp x)} {v : Value} {W : World} (h : c.holds v W) (e : c = newL base wr A n cp x y) : ∃ g, v = .slice (some ⟨g, 0, none⟩) 1 1 ∧ wr.heap.size ≤ g ∧ RL W W.heap.size (some ⟨g, 0, none⟩) 1 1 [y] := by subst e; exact h
def rowL (base : Nat) (wr : World) (A : Option Addr) (n cp : Nat) (x : List UInt8) (l : List Lay) : ClF (lyF base wr A n cp x) := .pred (fun v W => OwnL W base v l) (fun v a b _ hf _ h => h.on hf)
theorem rowL_of {l : List Lay} {c : ClF (lyF base wr A n cp x)} {v : Value} {W : World} (h : c.holds v W) (e : c = rowL base wr A n cp x l) : OwnL W base v l := by subst e; exact h
theorem newL_grown {W W' : World} {row : Option Nat} {g : Nat} {l : List Lay} (hg : W.grownBy W' row) (hrow : ∀ k, row = some k → k < wr.heap.size) (h0 : wr.heap.size ≤ g) (h1 : RL W W.heap.size (some ⟨g, 0, none⟩) 1 1 l) : RL W' W'.heap.size (some ⟨g, 0, none⟩) 1 1 l :=
  ⟨h1.1, h1.2.1, h1.2.2.1, h1.2.2.2.1, fun hn0 => by
    obtain ⟨b, off, e, hlt', hc⟩ := h1.2.2.2.2 hn0
    injection e with e
    injection e with e1 e2
    subst e1
    refine ⟨g, off, by rw [e2], by have := hg.size; omega, fun i v hi => ?_⟩
    rw [← hc i v hi]
    exact World.cell?_of_block (hg.block g hlt' fun e => by have := hrow g e.symm; omega)⟩
end
theorem layX_in (x : List UInt8) (h : x.length ≤ 100000) : (layX x).In := by
  refine ⟨?_, ?_, ?_⟩
  · show (ByteArray.mk (x.drop 6).toArray).size ≤ _
    have : (ByteArray.mk (x.drop 6).toArray).size = (x.drop 6).length := by simp [ByteArray.size]
    rw [this, List.length_drop]
    omega
  · show getN x 0 4 % 4294967296 < _
    omega
  · have h1 : getN x 4 2 < 65536 := getN_lt x 4 2
    show I64 ((getN x 4 2 : Nat) : Int)
    unfold I64
    omega
set_option maxHeartbeats 8000000 in
theorem lay_two (w0 : World) (R : Nat) (c : Ctl) (v : Value) (w : World) (hG : GMem w0 R c v w) (A : Option Addr) (n cp : Nat) (x : List UInt8) (h : R8 w w.heap.size A n cp x) (hn : n ≤ 100000) (hfar : ∀ ad, A = some ad → v.ownBlock ≠ some ad.block) (hL : c.layers.length ≤ 100000) :
    Calls Try.prog 41 #[.pointer (some ⟨R, 0, none⟩), .int .i64 2, .slice A n cp] w (LayPost w0 R (c.lay 2 x)) := by
  have hg := get_any A n cp x w h (by omega) 0 n (by unfold I64; omega)
  have EK : c.lay 2 x = { c with layers := c.layers ++ [layX x] } := rfl
  rw [EK]
  clear EK
  generalize getN x 0 n = N at hg
  generalize getB n 0 n = B at hg
  have hxn := h.1
  have hin := layX_in x (by omega)
  have HRL := Lib.hid fun (W : World) (hR : R8 W W.heap.size A n cp x) => readLayer_any A n cp x W hR hn
  generalize hT : layX x = T at HRL hin ⊢
  clear hT hxn
  have hB := hG.blk
  have hO := hG.own
  have hlo := hG.lo
  have hbw := hG.below
  clear hG
  have hRl := hB.lt
  obtain ⟨kk, p, l, e, ht, s, y, d⟩ := c
  simp only at hB hO hL ⊢
  obtain ⟨Ar, cr, rfl⟩ : ∃ Ar cr, v = .slice Ar l.length cr := by
    obtain ⟨A', c', e', _⟩ := own_rx (cellsL_len l) hO
    exact ⟨A', c', e'⟩
  have HBB : Hid (l.length + 1 ≤ 1000000) := Lib.hid (by omega)
  have HO := Lib.hid hO
  have HFAR := Lib.hid hfar
  obtain ⟨L2, hL2⟩ : ∃ L2, L2 = l ++ [T] := ⟨_, rfl⟩
  rw [← hL2]
  have HTK := Lib.hid hL2
  have HB := Lib.hid hB
  have HBW := Lib.hid hbw
  have hR8 := Lib.hid h
  clear hO hfar hL2 hL hbw h hB
  go_enter Try.func41, Try.ntmps41
  go_wp2_with fail
  refine hg.mono ?_
  rintro e' w' ⟨rfl, rfl⟩
  clear hg
  go_upto_region 5 with (fail)
  have hbw2 : R + 1 ≤ w.heap.size := hRl
  refine wp_region_s (F := lyF (R + 1) w A n cp x) (fun i => i == 8) (fun i W => OwnL W (R + 1) (.slice Ar l.length cr) l) 9
    [.val (.pointer (some ⟨R, 0, none⟩)), .val (.pointer (some ⟨R, 0, none⟩)), .val (.pointer (some ⟨R, 0, none⟩)), .val (.pointer (some ⟨R, 2, none⟩)), .val (.slice Ar l.length cr), .val (.slice A n cp), .val T.val, newL (R + 1) w A n cp x T, rowL (R + 1) w A n cp x L2]
    (by kernel_rfl) (by kernel_rfl) (by kernel_rfl) (by decide) (by kernel_rfl) ⟨below_drewN _ w 1, Nat.le_refl _, hR8.out.drewN 1⟩ (fun i hi => World.ownsRow.drew HO.out) (fun i a b _ _ hf _ hp => OwnL.on hp hf) (AllOblS.upto ⟨?_, ?_, ?_, ?_, ?_, ?_, ?_, ?_, ?_, trivial⟩) ?_ ?_
  · intro _
    exact OblS.move rfl _ (Or.inl rfl) (by kernel_rfl) rfl
  · intro _
    exact OblS.move rfl _ (Or.inl rfl) (by kernel_rfl) rfl
  · intro _
    refine OblS.pure rfl (.pointer (some ⟨R, 0, none⟩)) (by kernel_rfl) rfl fun ev W hI hx => ?_
    have e26 : ev (.tmp 26) = .pointer (some ⟨R, 0, none⟩) := holds_valF (hx (.tmp 26)) (by kernel_rfl)
    simp [execOp, e26, go_sem]
  · intro _
    refine OblS.pure rfl (.pointer (some ⟨R, 2, none⟩)) (by kernel_rfl) rfl fun ev W hI hx => ?_
    have e27 : ev (.tmp 27) = .pointer (some ⟨R, 0, none⟩) := holds_valF (hx (.tmp 27)) (by kernel_rfl)
    simp [execOp, e27, go_sem]
  · intro _
    refine OblS.pure rfl (.slice Ar l.length cr) (by kernel_rfl) rfl fun ev W hI hx => ?_
    have e28 : ev (.tmp 28) = .pointer (some ⟨R, 2, none⟩) := holds_valF (hx (.tmp 28)) (by kernel_rfl)
    have d4 : W.cell? ⟨R, 2, none⟩ = some (.slice Ar l.length cr) := (Below.cell (p := ⟨R, 2, none⟩) hI.1 (Nat.lt_succ_self R)).trans (HB.out.cell 2)
    simp [execOp, e28, go_sem, d4]
  · intro _
    exact OblS.move rfl _ (Or.inl rfl) (by kernel_rfl) rfl
  · intro _
    refine OblS.call rfl 52 #[.tmp 30] _ rfl Try.f52 Try.func52 (by kernel_rfl) (by kernel_rfl) rfl fun ev W hI hx => ?_
    have e0 : ev (.tmp 30) = .slice A n cp := holds_valF (hx (.tmp 30)) (by kernel_rfl)
    simp only [List.map_toArray, List.map_cons, List.map_nil, e0]
    refine (HRL.out W hI.2.2).mono ?_
    rintro e W' ⟨rfl, hb⟩
    exact ⟨_, rfl, lyF_step hI hbw2 hb, hb, rfl⟩
  · intro _
    refine OblS.step rfl fun ev W hI hx => ?_
    have e31 : ev (.tmp 31) = T.val := holds_valF (hx (.tmp 31)) (by kernel_rfl)
    refine ⟨.slice (some ⟨W.heap.size, 0, none⟩) 1 1, W.alloc (.cells #[.string T.rid, .int .u32 (T.ssrc : Int), .int .i64 T.height] 46), ?_, ?_, ?_, ?_⟩
    · simp [execOp, e31, go_sem, Lay.val, Lay.cells]
    · exact lyF_step hI hbw2 (below_alloc W _)
    · exact below_alloc W _
    · exact ⟨W.heap.size, rfl, hI.2.1, by have := one_rl W T hin; simpa using this⟩
  · exact fun hh => absurd hh (by decide)
  · intro i oo him hsp hoo
    have hi2 : i = 8 := by simpa using hsp
    have hka : ∀ k, (Value.slice Ar l.length cr).ownBlock = some k → R + 1 ≤ k ∧ k < w.heap.size := fun k hk => World.ownsRow.lt HO.out k hk
    subst hi2
    obtain rfl := (Option.some.inj hoo).symm
    refine OblX.step rfl fun ev W hI hpre hx => ?_
    have hpre : OwnL W (R + 1) (.slice Ar l.length cr) l := hpre
    have e29 : ev (.tmp 29) = .slice Ar l.length cr := holds_valF (hx (.tmp 29)) (by kernel_rfl)
    obtain ⟨gw, e32, hgw', hr⟩ := newL_of (y := T) (hx (.tmp 32)) (by kernel_rfl)
    obtain ⟨v', W', hrun, ho', hg'⟩ := run_appendL (R + 1) _ l hpre W.heap.size (some ⟨gw, 0, none⟩) 1 1 [T] hr HBB.out (Nat.le_trans hbw2 hI.2.1)
    refine ⟨v', W', run_op_append8 (.tmp 29) (.tmp 32) 23 23 rfl rfl _ _ _ _ _ e29 e32 hrun, ⟨below_grown hI.1 (Nat.le_trans hbw2 hI.2.1) hg' (fun k hk => (hka k hk).1), Nat.le_trans hI.2.1 hg'.size, hI.2.2.grown8 hg' HFAR.out⟩, ?_, ?_, ?_⟩
    · intro j u hj hh
      by_cases hj9 : j < 9
      · have : j = 7 ∨ j < 7 := by omega
        rcases this with rfl | this
        · obtain ⟨g, e, h1, h2⟩ := newL_of (y := T) hh rfl
          exact ⟨g, e, h1, newL_grown (wr := w) hg' (fun k hk => (hka k hk).2) h1 h2⟩
        · have : j = 0 ∨ j = 1 ∨ j = 2 ∨ j = 3 ∨ j = 4 ∨ j = 5 ∨ j = 6 := by omega
          rcases this with rfl | rfl | rfl | rfl | rfl | rfl | rfl <;> exact hh
      · rw [tbl_out8 (n := 9) rfl (by omega)]
        trivial
    · intro j hj hsj hp
      exact absurd (by simpa using hsj : j = 8) hj
    · show OwnL W' (R + 1) v' L2
      rw [HTK.out]
      exact ho'
  intro aa W hI hsz hdf hold hv
  have o33 : OwnL W (R + 1) (aa.tmps.getD 33 undef) L2 := rowL_of (hv 8 (by decide)) (by kernel_rfl)
  have v25 : aa.tmps.getD 25 undef = .pointer (some ⟨R, 0, none⟩) := holds_valF (hv 0 (by decide)) (by kernel_rfl)
  have ha := act_puts [25, 26, 27, 28, 29, 30, 31, 32, 33, 34, 35] (by kernel_rfl) hsz hdf hold
  simp only [putAll, v25] at ha
  generalize aa.tmps.getD 33 undef = v33 at ha o33
  generalize aa.tmps.getD 26 undef = x26 at ha
  generalize aa.tmps.getD 27 undef = x27 at ha
  generalize aa.tmps.getD 28 undef = x28 at ha
  generalize aa.tmps.getD 29 undef = x29 at ha
  generalize aa.tmps.getD 30 undef = x30 at ha
  generalize aa.tmps.getD 31 undef = x31 at ha
  generalize aa.tmps.getD 32 undef = x32 at ha
  generalize aa.tmps.getD 34 undef = x34 at ha
  generalize aa.tmps.getD 35 undef = x35 at ha
  clear v25 hv hold hsz hdf
  subst ha
  simp only [List.toList_toArray, List.drop_succ_cons, List.drop_zero, Act.put, List.setIfInBounds_toArray, List.set_cons_succ, List.set_cons_zero]
  obtain ⟨A7, c7, e7, _⟩ := own_rx (cellsL_len L2) o33
  obtain ⟨m7, hm7⟩ : ∃ m, m = L2.length := ⟨_, rfl⟩
  rw [← hm7] at e7
  clear hm7
  subst e7
  have hB2 := HB.out.below hI.1 (Nat.lt_succ_self R)
  have c2 : W.cell? ⟨R, 2, none⟩ = some (.slice Ar l.length cr) := hB2.cell 2
  have f2 := hB2.frozen 2
  have hP : GMem w0 R ⟨kk, p, L2, e, ht, s, y, d⟩ (.slice A7 m7 c7) (W.setCell ⟨R, 2, none⟩ (.slice A7 m7 c7)) := ⟨by
    have := hB2.set_ 2 (.slice A7 m7 c7)
    simpa only [List.setIfInBounds_toArray, List.set_cons_succ, List.set_cons_zero] using this, own_set8 o33 _, (HBW.out.trans (hI.1.mono (by omega))).setCell hlo _, hlo⟩
  have HP := Lib.hid hP
  clear hP o33 hB2 hI
  go_wp2_with fail
  refine bodyPost_end (results_none Try.results41 _ _ _) rfl ?_
  exact ⟨rfl, _, HP.out⟩
theorem lay_any (k : Nat) (hk : k < 256) (w0 : World) (R : Nat) (c : Ctl) (v : Value) (w : World) (hG : GMem w0 R c v w) (A : Option Addr) (n cp : Nat) (x : List UInt8) (h : R8 w w.heap.size A n cp x) (hn : n ≤ 100000) (hfar : ∀ ad, A = some ad → v.ownBlock ≠ some ad.block) (hL : c.layers.length ≤ 100000) :
    Calls Try.prog 41 #[.pointer (some ⟨R, 0, none⟩), .int .i64 (k : Int), .slice A n cp] w (LayPost w0 R (c.lay k x)) := by
  by_cases h2 : k = 2
  · subst h2
    exact lay_two w0 R c v w hG A n cp x h hn hfar hL
  · by_cases h7 : k = 0 ∨ 7 < k
    · exact lay_none k h7 hk w0 R c v w hG A n cp x h hn
    · exact lay_num k (by omega) w0 R c v w hG A n cp x h hn
end Go.Proofs.Ytgjncaobcgjefaa
namespace Go.Proofs.Ytgjncaobcgjefaa
open Go.RowKit
set_option linter.unusedVariables false
set_option linter.unusedSimpArgs false
set_option maxRecDepth 20000

/-- Cut, where the place is there: what it answers is new. -/
theorem cut_new8 (A : Option Addr) (n c : Nat) (l : List UInt8) (w : World) (h : R8 w w.heap.size A n c l) (hn : n ≤ 140737488355328) (i k : Nat) (ht : i + k ≤ n) :
    Calls Try.prog 40 #[.slice A n c, .int .i64 i, .int .i64 k] w fun e w' => ∃ g, e = .returned (.tuple #[.slice (some ⟨g, 0, none⟩) k k, .bool true]) ∧ R8 w' w'.heap.size (some ⟨g, 0, none⟩) k k ((l.drop i).take k) ∧ w.heap.size ≤ g ∧ Below w.heap.size w w' := by
  have hc := h.2.1
  have hi : I64 i := by unfold I64; omega
  have ht' : thB n i k = true := by simp [thB]; omega
  have hcut := fun W => run_cut (P := Try.prog) 30 5 Try.underlying30 u8_size A n c .i64 .i64 i (i + k) (by omega) (by omega) (by omega) W
  have hr := h.cut i (i + k) (by omega) ht
  have e1 : i + k - i = k := by omega
  have e2 : ((i : Int) + (k : Int)).toNat = i + k := by omega
  simp only [e1, e2, Int.toNat_natCast] at hcut hr
  have HK : Hid (((l.drop i).take k).length = k) := Lib.hid hr.1
  clear e1 e2
  go_enter Try.func40, Try.ntmps40
  go_wp2_with (first | (go_at_call 39; refine (there_any _ _ _ _ _ _ hi (by omega)).mono ?_; rintro e w' ⟨rfl, rfl⟩) | (go_at_call 38; refine (longer_zero _ _ _ _ _ hr (by omega)).mono ?_; rintro e w' ⟨g, m, rfl, hm, hg, hgb, hb⟩))
  go_ret2
  have hmk : m = k := by unfold Len at hm; rw [← hm]; exact HK.out
  subst hmk
  exact ⟨g, rfl, hg.r8 hm (Nat.le_refl _), hgb, hb⟩
theorem run_from8 (A : Option Addr) (n c k : Nat) (hk : k ≤ n) (hn : n ≤ c) (w : World) :
    (Instr.slice 30 (.slice A n c) (some (.int .i64 (k : Int))) none none).run Try.prog w = .ok (.slice (cutA A c k) (n - k) (c - k)) w := by
  have hs : (Try.prog.elem 30) = 5 := by simp [Program.elem, Try.underlying30]
  have h3 := run_slice_l (P := Try.prog) w 30 A n c (by rw [hs]; exact Try.underlying30) .i64 (k : Nat) (by omega) (by omega)
  rw [hs] at h3
  obtain ⟨i0, hi0, hz0, hz1, hz2⟩ := info_parts u8_info
  rw [h3]
  simp [sizeOf, typeInfo, hi0, hz1, sliced, Result.andThen, cutA]
theorem R8.from8 {w : World} {B n c : Nat} {A : Option Addr} {l : List UInt8} (h : R8 w B A n c l) (i : Nat) (hi : i ≤ n) : R8 w B (cutA A c i) (n - i) (c - i) (l.drop i) := by
  have h1 := h.cut i n hi (Nat.le_refl _)
  rwa [List.take_of_length_le (by rw [List.length_drop, h.1]; omega)] at h1
/-- What a message's fields are, whatever was laid in. -/
structure CIn (c : Ctl) : Prop where
  layers : ∀ x ∈ c.layers, x.In
  kind : I64 c.kind
  cap : I64 c.cap
  peer : I64 c.peer
  height : I64 c.height
  cls : I64 c.cls
  layer : I64 c.layer
  code : I64 c.code
theorem wrap64_in (n : Int) : I64 (wrap64 n) := by unfold I64 wrap64; omega
theorem lay_in {c : Ctl} (h : CIn c) (k : Nat) (x : List UInt8) (hx : x.length ≤ 100000) : CIn (c.lay k x) := by
  have hw := wrap64_in (numB x)
  unfold Ctl.lay
  split
  · exact { h with cap := hw }
  split
  · refine { h with layers := fun y hy => ?_ }
    rcases List.mem_append.1 hy with hy | hy
    · exact h.layers y hy
    · rw [List.mem_singleton] at hy
      subst hy
      exact layX_in x hx
  split
  · exact { h with peer := hw }
  split
  · exact { h with height := hw }
  split
  · exact { h with cls := hw }
  split
  · exact { h with layer := hw }
  split
  · exact { h with code := hw }
  exact h
theorem lay_len (c : Ctl) (k : Nat) (x : List UInt8) : (c.lay k x).layers.length ≤ c.layers.length + 1 := by
  unfold Ctl.lay
  split
  · simp
  split
  · simp
  split
  · simp
  split
  · simp
  split
  · simp
  split
  · simp
  split
  · simp
  simp
theorem gatF_small {f : Nat} {l : List UInt8} (h : l.length < 2) (c : Ctl) : gatF f l c = c := by
  match f, l, h with
  | 0, l, _ => unfold gatF; cases l <;> rfl
  | f + 1, [], _ => rfl
  | f + 1, [_], _ => rfl
theorem gatF_step {f : Nat} {l : List UInt8} (h : 2 ≤ l.length) (hf : l.length ≤ f) (c : Ctl) :
    (l.length < 2 + (l.getD 1 0).toNat → gatF f l c = c) ∧ (2 + (l.getD 1 0).toNat ≤ l.length → gatF f l c = gatF (f - 1) (l.drop (2 + (l.getD 1 0).toNat)) (c.lay (l.getD 0 0).toNat ((l.drop 2).take (l.getD 1 0).toNat))) := by
  obtain ⟨a, k, r, rfl⟩ : ∃ a k r, l = a :: k :: r := by
    rcases l with _ | ⟨a, _ | ⟨k, r⟩⟩
    · simp at h
    · simp at h
    · exact ⟨a, k, r, rfl⟩
  obtain ⟨f, rfl⟩ : ∃ f', f = f' + 1 := ⟨f - 1, by omega⟩
  simp only [List.getD_cons_succ, List.getD_cons_zero, List.length_cons, List.drop_succ_cons, List.drop_zero, Nat.add_sub_cancel]
  refine ⟨fun h1 => ?_, fun h1 => ?_⟩
  · rw [gatF, if_pos (by omega)]
  · rw [gatF, if_neg (by omega), show 2 + k.toNat = k.toNat + 1 + 1 by omega]
    rfl
theorem GMem.on {w0 : World} {R : Nat} {c : Ctl} {v : Value} {W W' : World} (h : GMem w0 R c v W) (hb : Below W.heap.size W W') : GMem w0 R c v W' :=
  ⟨h.blk.below hb h.blk.lt, h.own.on hb, h.below.trans (hb.mono h.below.size), h.lo⟩
/-- What gather answers. -/
def GatOut (c : Ctl) (w : World) (e : Ending) (w' : World) : Prop := ∃ A cp, e = .returned (c.val A cp) ∧ IsC w' w'.heap.size c A cp ∧ c.layers.length ≤ 100000 ∧ Below w.heap.size w w'
set_option maxHeartbeats 8000000 in
theorem gather_any (k : Nat) (hk : k < 256) (A : Option Addr) (n cp : Nat) (b : List UInt8) (w : World) (h : R8 w w.heap.size A n cp b) (hn : n ≤ 65535) : Calls Try.prog 23 #[.int .i64 (k : Int), .slice A n cp] w (GatOut (gat k b) w) := by
  have i0 : I64 0 := by unfold I64; omega
  have HG0 : Hid (gatF n b ⟨k, 0, [], 0, 0, 0, 0, 0⟩ = gat k b) := Lib.hid (by unfold gat; rw [h.1])
  generalize gat k b = G at HG0 ⊢
  have b0 := below_alloc w (.cells zeroCt 25)
  have hZ := Blk.new w 25 zeroCt
  have h0 := h.on b0
  obtain ⟨g, hg⟩ : ∃ g, g = w.heap.size := ⟨_, rfl⟩
  have HGW := Lib.hid hg
  unfold zeroCt at b0 hZ h0
  have hM : GMem (w.alloc (.cells #[.int .i64 0, .int .i64 0, .slice none 0 0, .int .i64 0, .int .i64 0, .int .i64 0, .int .i64 0, .int .i64 0] 25)) (w.heap.size + 1) ⟨k, 0, [], 0, 0, 0, 0, 0⟩ (.slice none 0 0) ((w.alloc (.cells #[.int .i64 0, .int .i64 0, .slice none 0 0, .int .i64 0, .int .i64 0, .int .i64 0, .int .i64 0, .int .i64 0] 25)).alloc (.cells #[.int .i64 (k : Int), .int .i64 0, .slice none 0 0, .int .i64 0, .int .i64 0, .int .i64 0, .int .i64 0, .int .i64 0] 25)) := ⟨by
    have := Blk.new (w.alloc (.cells #[.int .i64 0, .int .i64 0, .slice none 0 0, .int .i64 0, .int .i64 0, .int .i64 0, .int .i64 0, .int .i64 0] 25)) 25 #[.int .i64 (k : Int), .int .i64 0, .slice none 0 0, .int .i64 0, .int .i64 0, .int .i64 0, .int .i64 0, .int .i64 0]
    rwa [show (w.alloc (.cells #[.int .i64 0, .int .i64 0, .slice none 0 0, .int .i64 0, .int .i64 0, .int .i64 0, .int .i64 0, .int .i64 0] 25)).heap.size = w.heap.size + 1 by simp] at this, OwnL.nil _ _, below_alloc _ _, by simp⟩
  go_enter Try.func23, Try.ntmps23
  go_wp2_with fail
  obtain ⟨g5, hg5⟩ : ∃ x, x = w.heap.size + 1 := ⟨_, rfl⟩
  rw [← hg5] at hM ⊢
  rw [← hg] at hZ ⊢
  have HG5 := Lib.hid hg5
  clear hg hg5
  generalize (w.alloc (.cells #[.int .i64 0, .int .i64 0, .slice none 0 0, .int .i64 0, .int .i64 0, .int .i64 0, .int .i64 0, .int .i64 0] 25)).alloc (.cells #[.int .i64 (k : Int), .int .i64 0, .slice none 0 0, .int .i64 0, .int .i64 0, .int .i64 0, .int .i64 0, .int .i64 0] 25) = W5 at hM ⊢
  generalize w.alloc (.cells #[.int .i64 0, .int .i64 0, .slice none 0 0, .int .i64 0, .int .i64 0, .int .i64 0, .int .i64 0, .int .i64 0] 25) = W4 at b0 hZ h0 hM
  have hgl := hZ.lt
  go_loopw [1, 6, 7, 10] (fun s1 _ _ _ wr => ∃ (A : Option Addr) (n cp : Nat) (r : List UInt8) (c : Ctl) (v : Value) (f : Nat), s1 = .slice A n cp ∧ R8 W4 W4.heap.size A n cp r ∧ GMem W4 g5 c v wr ∧ Hid (gatF f r c = G) ∧ r.length ≤ f ∧ c.layers.length + n ≤ 65535 ∧ Hid (CIn c)) (fun s1 _ _ _ _ => lenOf s1)
  case atStart => exact ⟨A, n, cp, b, _, _, n, rfl, h0, hM, HG0, by rw [h.1]; omega, by simp; omega, Lib.hid ⟨by simp, by unfold I64; simp only; omega, i0, i0, i0, i0, i0, i0⟩⟩
  case round =>
    clear h0 hM HG0 h hn
    obtain ⟨A, n, cp, r, c, v, f, rfl, hr, hM, HG, hrf, hcn, hC⟩ := hrel
    have hrn := hr.1
    by_cases h2 : 2 ≤ n
    case neg =>
      have t2 : decide ((2 : Int) ≤ (n : Int)) = false := by simp; omega
      have hGc : c = G := (gatF_small (by omega) c).symm.trans HG.out
      subst hGc
      have hI := hC.out
      obtain ⟨Av, cv, hv, hrl, hlo⟩ := hM.own.rl hI.layers
      subst hv
      have HA : Hid (∀ ad, Av = some ad → ad.block ≠ g) := Lib.hid fun ad ha => by have := hlo ad ha; have := HG5.out; have := HGW.out; omega
      have kc := blk8c hM.blk
      have zc := blk8 (hZ.below hM.below hgl)
      have zf := blk8f (hZ.below hM.below hgl)
      have hB := hZ.below hM.below hgl
      have hbw := b0.trans (hM.below.mono b0.size)
      have hlen : c.layers.length ≤ 100000 := by omega
      obtain ⟨ck, cc, cl, ce, ch, cs, cy, cd⟩ := c
      simp only at kc hrl hI hlen
      generalize hml : cl.length = ml at kc hrl hlen
      have HML := Lib.hid hml
      obtain ⟨z0, z1, z2, z3, z4, z5, z6, z7⟩ := zc
      obtain ⟨zf0, zf1, zf2, zf3, zf4, zf5, zf6, zf7⟩ := zf
      obtain ⟨k0, k1, k2, k3, k4, k5, k6, k7⟩ := kc
      have hBs := set8_blk (v0 := .int .i64 ck) (v1 := .int .i64 cc) (v2 := .slice Av ml cv) (v3 := .int .i64 ce) (v4 := .int .i64 ch) (v5 := .int .i64 cs) (v6 := .int .i64 cy) (v7 := .int .i64 cd) hB
      have bs := hbw.trans (set8_below (B := w.heap.size) (W := wr) (R := g) (v0 := .int .i64 ck) (v1 := .int .i64 cc) (v2 := .slice Av ml cv) (v3 := .int .i64 ce) (v4 := .int .i64 ch) (v5 := .int .i64 cs) (v6 := .int .i64 cy) (v7 := .int .i64 cd) (by have := HGW.out; omega))
      have hrs := RL.set8 hrl HA.out (.int .i64 ck) (.int .i64 cc) (.slice Av ml cv) (.int .i64 ce) (.int .i64 ch) (.int .i64 cs) (.int .i64 cy) (.int .i64 cd)
      clear hrl hB hml hlo hM
      go_wp2_with fail
      have hq := blk8 hBs
      change bodyPost _ _ _ _ _ (set8 wr g (.int .i64 ck) (.int .i64 cc) (.slice Av ml cv) (.int .i64 ce) (.int .i64 ch) (.int .i64 cs) (.int .i64 cy) (.int .i64 cd))
      generalize set8 wr g (.int .i64 ck) (.int .i64 cc) (.slice Av ml cv) (.int .i64 ce) (.int .i64 ch) (.int .i64 cs) (.int .i64 cy) (.int .i64 cd) = W9 at bs hq hrs ⊢
      obtain ⟨q0, q1, q2, q3, q4, q5, q6, q7⟩ := hq
      refine bodyPost_ret (v := .agg #[.int .i64 ck, .int .i64 cc, .slice Av ml cv, .int .i64 ce, .int .i64 ch, .int .i64 cs, .int .i64 cy, .int .i64 cd]) (by simp [results, Try.results23, go_sem, q0, q1, q2, q3, q4, q5, q6, q7]; try rfl) rfl ?_
      refine ⟨Av, cv, by rw [← HML.out], ⟨by simp only; rw [HML.out]; exact hrs, hI.kind, hI.cap, hI.peer, hI.height, hI.cls, hI.layer, hI.code⟩, by simp only; rw [HML.out]; exact hlen, bs⟩
    have t2 : decide ((2 : Int) ≤ (n : Int)) = true := by simp; omega
    have t1 : decide ((1 : Int) < (n : Int)) = true := by simp; omega
    have t0 : decide ((0 : Int) < (n : Int)) = true := by simp; omega
    have hst := gatF_step (f := f) (l := r) (by omega) hrf c
    have hrw := hr.on hM.below
    obtain ⟨bb, off, rfl, hbb, hcell⟩ := hrw.2.2 (by omega)
    have u0 := hcell 0 (by omega)
    have u1 := hcell 1 (by omega)
    rw [Nat.add_zero] at u0
    clear hcell
    obtain ⟨K0, hK0⟩ : ∃ K, K = (r.getD 0 0).toNat := ⟨_, rfl⟩
    obtain ⟨K, hK⟩ : ∃ K, K = (r.getD 1 0).toNat := ⟨_, rfl⟩
    have hK08 : K0 < 256 := by rw [hK0]; exact (r.getD 0 0).toNat_lt
    have hK8 : K < 256 := by rw [hK]; exact (r.getD 1 0).toNat_lt
    rw [← hK0] at u0 hst
    rw [← hK] at u1 hst
    clear hK0 hK
    have HST := Lib.hid hst
    clear hst
    have y0 : IntKind.i64.wrap (K0 : Int) = (K0 : Int) := by rw [IntKind.wrap_i64]; omega
    have y1 : IntKind.i64.wrap (K : Int) = (K : Int) := by rw [IntKind.wrap_i64]; omega
    by_cases hKn : 2 + K ≤ n
    case neg =>
      have hGc : c = G := ((HST.out.1 (by omega)).symm.trans HG.out)
      subst hGc
      have hth : thB n 2 (K : Int) = false := by simp [thB]; omega
      have hcn := cut_no (some ⟨bb, off, none⟩) n cp wr (by omega) 2 (K : Int) (by unfold I64; omega) hth
      clear hth
      go_wp2_with fail
      refine hcn.mono ?_
      rintro e w' ⟨rfl, rfl⟩
      clear hcn u0 u1 y0 y1
      have hI := hC.out
      obtain ⟨Av, cv, hv, hrl, hlo⟩ := hM.own.rl hI.layers
      subst hv
      have HA : Hid (∀ ad, Av = some ad → ad.block ≠ g) := Lib.hid fun ad ha => by have := hlo ad ha; have := HG5.out; have := HGW.out; omega
      have kc := blk8c hM.blk
      have zc := blk8 (hZ.below hM.below hgl)
      have zf := blk8f (hZ.below hM.below hgl)
      have hB := hZ.below hM.below hgl
      have hbw := b0.trans (hM.below.mono b0.size)
      have hlen : c.layers.length ≤ 100000 := by omega
      obtain ⟨ck, cc, cl, ce, ch, cs, cy, cd⟩ := c
      simp only at kc hrl hI hlen
      generalize hml : cl.length = ml at kc hrl hlen
      have HML := Lib.hid hml
      obtain ⟨z0, z1, z2, z3, z4, z5, z6, z7⟩ := zc
      obtain ⟨zf0, zf1, zf2, zf3, zf4, zf5, zf6, zf7⟩ := zf
      obtain ⟨k0, k1, k2, k3, k4, k5, k6, k7⟩ := kc
      have hBs := set8_blk (v0 := .int .i64 ck) (v1 := .int .i64 cc) (v2 := .slice Av ml cv) (v3 := .int .i64 ce) (v4 := .int .i64 ch) (v5 := .int .i64 cs) (v6 := .int .i64 cy) (v7 := .int .i64 cd) hB
      have bs := hbw.trans (set8_below (B := w.heap.size) (W := wr) (R := g) (v0 := .int .i64 ck) (v1 := .int .i64 cc) (v2 := .slice Av ml cv) (v3 := .int .i64 ce) (v4 := .int .i64 ch) (v5 := .int .i64 cs) (v6 := .int .i64 cy) (v7 := .int .i64 cd) (by have := HGW.out; omega))
      have hrs := RL.set8 hrl HA.out (.int .i64 ck) (.int .i64 cc) (.slice Av ml cv) (.int .i64 ce) (.int .i64 ch) (.int .i64 cs) (.int .i64 cy) (.int .i64 cd)
      clear hrl hB hml hlo hM
      go_wp2_with fail
      have hq := blk8 hBs
      change bodyPost _ _ _ _ _ (set8 wr g (.int .i64 ck) (.int .i64 cc) (.slice Av ml cv) (.int .i64 ce) (.int .i64 ch) (.int .i64 cs) (.int .i64 cy) (.int .i64 cd))
      generalize set8 wr g (.int .i64 ck) (.int .i64 cc) (.slice Av ml cv) (.int .i64 ce) (.int .i64 ch) (.int .i64 cs) (.int .i64 cy) (.int .i64 cd) = W9 at bs hq hrs ⊢
      obtain ⟨q0, q1, q2, q3, q4, q5, q6, q7⟩ := hq
      refine bodyPost_ret (v := .agg #[.int .i64 ck, .int .i64 cc, .slice Av ml cv, .int .i64 ce, .int .i64 ch, .int .i64 cs, .int .i64 cy, .int .i64 cd]) (by simp [results, Try.results23, go_sem, q0, q1, q2, q3, q4, q5, q6, q7]; try rfl) rfl ?_
      refine ⟨Av, cv, by rw [← HML.out], ⟨by simp only; rw [HML.out]; exact hrs, hI.kind, hI.cap, hI.peer, hI.height, hI.cls, hI.layer, hI.code⟩, by simp only; rw [HML.out]; exact hlen, bs⟩
    have hGn : Hid (gatF (f - 1) (r.drop (2 + K)) (c.lay K0 ((r.drop 2).take K)) = G) := Lib.hid ((HST.out.2 (by omega)).symm.trans HG.out)
    have hcut : Calls Try.prog 40 #[.slice (some ⟨bb, off, none⟩) n cp, .int .i64 2, .int .i64 (K : Int)] wr fun e w' => ∃ g, e = .returned (.tuple #[.slice (some ⟨g, 0, none⟩) K K, .bool true]) ∧ R8 w' w'.heap.size (some ⟨g, 0, none⟩) K K ((r.drop 2).take K) ∧ wr.heap.size ≤ g ∧ Below wr.heap.size wr w' := cut_new8 (some ⟨bb, off, none⟩) n cp r wr hrw (by omega) 2 K hKn
    clear HST HG hrw
    go_wp2_with fail
    refine hcut.mono ?_
    rintro e w1 ⟨gd, rfl, rd, hgd, b1⟩
    have u0' := (Below.cell (p := ⟨bb, off, none⟩) b1 hbb).trans u0
    have hM1 := hM.on b1
    clear hcut u0 u1 b1
    generalize hX : (r.drop 2).take K = X at rd hGn
    have HX := Lib.hid hX
    clear hX
    have hXl := rd.1
    have hlay := lay_any K0 hK08 W4 g5 c v w1 hM1 (some ⟨gd, 0, none⟩) K K X rd (by omega) (fun ad ha e => by
      injection ha with ha
      subst ha
      have := (World.ownsRow.lt hM.own _ e).2
      simp only at this
      omega) (by omega)
    have hCn : Hid (CIn (c.lay K0 X)) := Lib.hid (lay_in hC.out K0 X (by omega))
    have hLn : Hid ((c.lay K0 X).layers.length ≤ c.layers.length + 1) := Lib.hid (lay_len c K0 X)
    generalize c.lay K0 X = c2 at hlay hGn hCn hLn
    clear hM hM1 rd hgd hbb hXl
    go_wp2_with fail
    refine hlay.mono ?_
    rintro e w2 ⟨rfl, v2, hM2⟩
    clear hlay u0'
    have hcp := hr.2.1
    have hsl := fun W => run_from8 (some ⟨bb, off, none⟩) n cp (2 + K) hKn hcp W
    rw [show ((2 + K : Nat) : Int) = 2 + (K : Int) by omega] at hsl
    have hr2 := hr.from8 (2 + K) hKn
    go_wp2_with fail
    go_roundw
    case rel => exact ⟨_, _, _, _, c2, v2, f - 1, rfl, hr2, hM2, hGn, by rw [List.length_drop]; omega, by have := hLn.out; omega, hCn⟩
    case measure => simp [lenOf]; omega
end Go.Proofs.Ytgjncaobcgjefaa
