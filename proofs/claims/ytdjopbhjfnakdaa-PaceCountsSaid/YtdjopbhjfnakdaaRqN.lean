/- Contracts: limelightref9's queue: NewQueue, Put. -/
import Derived.Test.YtdjopbhjfnakdaaRqM
import Derived.Test.YtdjopbhjfnakdaaRegD
import Derived.Test.YtdjopbhjfnakdaaBase
namespace Go.Proofs.Ytdjopbhjfnakdaa
open Go.RowKit
set_option linter.unusedVariables false
set_option linter.unusedSimpArgs false
set_option maxRecDepth 20000

theorem run_op_appendQ {o : Oper} {ev : Operand → Value} {w w' : World} (s x : Operand) (t ty : TypeId) (ho : o.op = .call { callee := .builtin .append, args := #[s, x], argTypes := #[t, t] }) (hty : o.type = ty) (v v' : Value) (A : Option Addr) (m c : Nat)
    (hs : ev s = v) (hx : ev x = .slice A m c) (hrun : (Builtin.append_ #[t, t] ty #[v, .slice A m c]).run Try.prog w = .ok v' w') : (execOp ev o).run Try.prog w = .ok (.value v') w' := by
  unfold execOp
  simp only [ho, hty, resolve, invoke, builtin, Sem.run_bind, Sem.run_pure, Result.andThen_ok, List.map_toArray, List.map_cons, List.map_nil, hs, hx, hrun]
theorem OwnS.set {w : World} {base G i : Nat} {v x : Value} {Q : Row8} (h : OwnS w base v Q) (hG : G < base) : OwnS (w.setCell ⟨G, i, none⟩ x) base v Q := by
  have hne : v.ownBlock ≠ some G := fun e => by have := (World.ownsRow.lt h G e).1; omega
  exact World.ownsRow.kept (row := some G) h ⟨rfl, rfl, rfl, by simp [World.setCell], fun k _ hk => Below.heap_setCell w ⟨G, i, none⟩ x k (fun e => hk (congrArg some e))⟩ (.inr hne)
theorem ref_newq (a b : Int) (ha : I64 a) (hb : I64 b) (w : World) : Calls Try.prog 16 #[.int .i64 a, .int .i64 b] w (fun e w' => ∃ G g', e = .returned (.pointer (some ⟨G, 0, none⟩)) ∧ RqAt w' G g' (heldN a) (heldN b) (heldN b * 1000000) [] 0 none 0 ∧ w.heap.size ≤ G ∧ w.heap.size ≤ g' ∧ Below w.heap.size w w') := by
  have m1 := ref_new a b ha hb w
  go_enter Try.func16, Try.ntmps16
  go_wp2_with fail
  refine m1.mono ?_
  rintro e w1 ⟨g', rfl, q0, hg', b0⟩
  have HB := Lib.hid (show Blk (w1.alloc (.cells #[.pointer (some ⟨g', 0, none⟩), .slice none 0 0, .int .i64 0] 49)) w1.heap.size 49 #[.pointer (some ⟨g', 0, none⟩), .slice none 0 0, .int .i64 0] from Blk.new _ _ _)
  have hl := q0.lt
  have HK := Lib.hid (⟨BkAt.lt q0, q0, hg', b0, b0.size⟩ : _ ∧ _ ∧ _ ∧ _ ∧ _)
  clear m1 q0 hg' b0 hl
  go_wp2_with fail
  go_ret
  obtain ⟨hl, q0, hg', b0, hs⟩ := HK.out
  have bA := belowA w1 (.cells #[.pointer (some ⟨g', 0, none⟩), .slice none 0 0, .int .i64 0] 49)
  exact ⟨w1.heap.size, g', rfl, ⟨HB.out, (bA.block g' hl).trans q0, RS.nil _ _ _ _, by omega⟩, hs, hg', b0.trans (bA.mono hs)⟩
/-- In the region that puts: old memory stays, the row and the datagram can be read. -/
def quF (w0 : World) : Frame where
  I := fun W => Below w0.heap.size w0 W
  Fr := fun a b => Below a.heap.size a b
  refl := fun w _ => Below.refl _ w
  trans := fun a b c h k => h.trans (k.mono h.size)
  drew := fun W h => ⟨h.trans ((belowDrewN W 1).mono h.size), belowDrewN W 1⟩
def emQ (w0 : World) : ClF (quF w0) := .pred (fun v W => ∃ g, v = .slice (some ⟨g, 0, none⟩) 0 0 ∧ w0.heap.size ≤ g ∧ Blk W g 9 #[]) (fun v a b _ hf _ h => by
  obtain ⟨g, e, h1, h2⟩ := h
  exact ⟨g, e, h1, (hf.block g h2.lt).trans h2⟩)
def onQ (w0 : World) (x : List UInt8) : ClF (quF w0) := .pred (fun v W => ∃ g, v = .slice (some ⟨g, 0, none⟩) 1 1 ∧ w0.heap.size ≤ g ∧ Blk W g 9 #[.string (strB x)]) (fun v a b _ hf _ h => by
  obtain ⟨g, e, h1, h2⟩ := h
  exact ⟨g, e, h1, (hf.block g h2.lt).trans h2⟩)
def rwQ (w0 : World) (Q : Row8) : ClF (quF w0) := .pred (fun v W => OwnS W w0.heap.size v Q) (fun v a b _ hf _ h => h.on hf)
theorem emQ_of {w0 : World} {c : ClF (quF w0)} {v : Value} {W : World} (h : c.holds v W) (e : c = emQ w0) : ∃ g, v = .slice (some ⟨g, 0, none⟩) 0 0 ∧ w0.heap.size ≤ g ∧ Blk W g 9 #[] := by subst e; exact h
theorem onQ_of {w0 : World} {x : List UInt8} {c : ClF (quF w0)} {v : Value} {W : World} (h : c.holds v W) (e : c = onQ w0 x) : ∃ g, v = .slice (some ⟨g, 0, none⟩) 1 1 ∧ w0.heap.size ≤ g ∧ Blk W g 9 #[.string (strB x)] := by subst e; exact h
theorem rwQ_of {w0 : World} {Q : Row8} {c : ClF (quF w0)} {v : Value} {W : World} (h : c.holds v W) (e : c = rwQ w0 Q) : OwnS W w0.heap.size v Q := by subst e; exact h
theorem own_of_empty {W : World} {base g : Nat} (hb : base ≤ g) (h : Blk W g 9 #[]) : OwnS W base (.slice (some ⟨g, 0, none⟩) 0 0) [] := ⟨rfl, .inr ⟨g, 0, #[], rfl, hb, h, Nat.le_refl _, by simp [maxLen], rfl, rfl⟩⟩
theorem rs_of_one {W : World} {g : Nat} {x : List UInt8} (h : Blk W g 9 #[.string (strB x)]) : RS W W.heap.size (some ⟨g, 0, none⟩) 1 1 [x] := by
  refine ⟨rfl, ⟨rfl, Nat.le_refl _, fun _ => ⟨g, 0, rfl, h.lt, fun j v hj => ?_⟩⟩⟩
  rw [Nat.zero_add, h.cell j, ← hj]
  simp [cellsQ]
/-- What Put leaves. -/
def RqPut (G g' r u l : Nat) (Q : Row8) (cut : Nat) (A : Option Addr) (x : List UInt8) (w : World) (e : Ending) (w' : World) : Prop :=
  e = .returned (.bool (putB u Q x)) ∧ ∃ A' c', RqAt w' G g' r u l (putQ u Q x) (putC u Q x cut) A' c' ∧ OnlyS (fun k => k = G) w w' ∧ ∀ ad, A' = some ad → (putB u Q x = false ∧ A = some ad) ∨ w.heap.size ≤ ad.block
theorem RqAt.cells {w : World} {G g' r u l : Nat} {Q : Row8} {cut : Nat} {A : Option Addr} {c : Nat} (h : RqAt w G g' r u l Q cut A c) : (w.cell? ⟨G, 0, none⟩ = some (.pointer (some ⟨g', 0, none⟩)) ∧ w.cell? ⟨G, 1, none⟩ = some (.slice A Q.length c) ∧ w.cell? ⟨G, 2, none⟩ = some (.int .i64 (cut : Int))) ∧ w.frozen? ⟨G, 1, none⟩ = false ∧ w.frozen? ⟨G, 2, none⟩ = false :=
  ⟨⟨h.blk.cell 0, h.blk.cell 1, h.blk.cell 2⟩, h.blk.frozen 1, h.blk.frozen 2⟩
/-- Where a row's texts are, no queue's block is: its cells are others. -/
theorem RqAt.far {w : World} {G g' r u l : Nat} {Q : Row8} {cut : Nat} {A : Option Addr} {c : Nat} (h : RqAt w G g' r u l Q cut A c) {ad : Addr} (hA : A = some ad) (hQ : 0 < Q.length) : ad.block ≠ G ∧ ad.block ≠ g' := by
  obtain ⟨b, off, e, hb, hc⟩ := h.row.at hQ
  subst hA
  injection e with e
  subst e
  refine ⟨fun e => ?_, fun e => ?_⟩
  · subst e
    have h1 := h.blk.cell (off + 0)
    rw [h1] at hc
    match off, hc with
    | 0, hc => simp at hc
    | 1, hc => simp at hc
    | 2, hc => simp at hc
    | k + 3, hc => simp at hc
  · subst e
    have h1 := Blk.cell h.bkt (off + 0)
    rw [h1] at hc
    match off, hc with
    | 0, hc => simp at hc
    | 1, hc => simp at hc
    | 2, hc => simp at hc
    | k + 3, hc => simp at hc
theorem RqAt.row_on {w w' : World} {G g' r u l : Nat} {Q : Row8} {cut : Nat} {A : Option Addr} {c : Nat} (h : RqAt w G g' r u l Q cut A c) {S : Nat → Prop} (ho : OnlyS S w w') (hs : ∀ ad, A = some ad → 0 < Q.length → ¬ S ad.block) : RS w' w'.heap.size A Q.length c Q := by
  refine ⟨rfl, h.row.2.1, h.row.2.2.1, fun hn => ?_⟩
  obtain ⟨b, off, e, hb, hc⟩ := h.row.2.2.2 hn
  exact ⟨b, off, e, Nat.lt_of_lt_of_le hb ho.size, fun j v hj => (ho.cell (p := ⟨b, off + j, none⟩) hb (hs ⟨b, off, none⟩ e hn)).trans (hc j v hj)⟩
theorem RqAt.on {w w' : World} {G g' r u l : Nat} {Q : Row8} {cut : Nat} {A : Option Addr} {c : Nat} (h : RqAt w G g' r u l Q cut A c) (hb : Below w.heap.size w w') : RqAt w' G g' r u l Q cut A c := ⟨(hb.block G h.blk.lt).trans h.blk, h.bkt.on hb, h.row.on hb, h.ne⟩
/-- Its bucket turned. -/
theorem RqAt.bucket {w w' : World} {G g' r u l r2 u2 l2 : Nat} {Q : Row8} {cut : Nat} {A : Option Addr} {c : Nat} (h : RqAt w G g' r u l Q cut A c) (hb : BkAt w' g' r2 u2 l2) (ho : Only g' w w') : RqAt w' G g' r2 u2 l2 Q cut A c :=
  ⟨h.blk.onlyS (OnlyS.one (S := fun k => k = g') ho rfl) (fun e : G = g' => h.ne e), hb, h.row_on (OnlyS.one (S := fun k => k = g') ho rfl) (fun ad hA hn (e : ad.block = g') => (h.far hA hn).2 e), h.ne⟩
/-- Other blocks turned. -/
theorem RqAt.other {w w' : World} {G g' r u l : Nat} {Q : Row8} {cut : Nat} {A : Option Addr} {c : Nat} (h : RqAt w G g' r u l Q cut A c) {S : Nat → Prop} (ho : OnlyS S w w') (hG : ¬ S G) (hg : ¬ S g') (hA : ∀ ad, A = some ad → 0 < Q.length → ¬ S ad.block) : RqAt w' G g' r u l Q cut A c :=
  ⟨h.blk.onlyS ho hG, h.bkt.onlyS ho hg, h.row_on ho hA, h.ne⟩
theorem OwnS.only {w w' : World} {base g : Nat} {v : Value} {Q : Row8} (h : OwnS w base v Q) (ho : Only g w w') (hg : g < base) : OwnS w' base v Q := by
  have hne : v.ownBlock ≠ some g := fun e => by have := (World.ownsRow.lt h g e).1; omega
  exact World.ownsRow.kept (row := some g) h ⟨ho.os, ho.tape, ho.output, ho.size, fun k hk hn => ho.block k hk (fun e => hn (congrArg some e))⟩ (.inr hne)
/-- A new row in its block. -/
theorem RqAt.put1 {W : World} {G g' r u l : Nat} {Q : Row8} {cut base n0 c0 m c : Nat} {A0 A : Option Addr} (hB : Blk W G 49 #[.pointer (some ⟨g', 0, none⟩), .slice A0 n0 c0, .int .i64 (cut : Int)]) (hb : BkAt W g' r u l) (hne : G ≠ g') (ho : OwnS W base (.slice A m c) Q) (hG : G < base) (hm : m = Q.length) : RqAt (W.setCell ⟨G, 1, none⟩ (.slice A m c)) G g' r u l Q cut A c := by
  have hS := OnlyS.one (S := fun k => k = G) (Only.set G 1 W (.slice A m c)) rfl
  refine ⟨?_, hb.onlyS hS (fun e : g' = G => hne e.symm), ?_, hne⟩
  · have := hB.set_ 1 (.slice A m c)
    rw [← hm]
    simpa only [List.setIfInBounds_toArray, List.set_cons_succ, List.set_cons_zero] using this
  · obtain ⟨A8', c8', e8, r8, _⟩ := (OwnS.set (i := 1) (x := .slice A m c) ho hG).rs
    rw [hm] at e8
    injection e8 with e8 _ e9
    subst e8 e9
    rw [hm]
    rw [hm] at r8
    exact r8
/-- Its counter turned. -/
theorem RqAt.cutUp {w : World} {G g' r u l : Nat} {Q : Row8} {cut : Nat} {A : Option Addr} {c : Nat} (h : RqAt w G g' r u l Q cut A c) : RqAt (w.setCell ⟨G, 2, none⟩ (.int .i64 ((cut + 1 : Nat) : Int))) G g' r u l Q (cut + 1) A c := by
  have ho := OnlyS.one (S := fun k => k = G) (Only.set G 2 w (.int .i64 ((cut + 1 : Nat) : Int))) rfl
  refine ⟨?_, h.bkt.onlyS ho (fun e : g' = G => h.ne e.symm), h.row_on ho (fun ad hA hn (e : ad.block = G) => (h.far hA hn).1 e), h.ne⟩
  have := h.blk.set_ 2 (.int .i64 ((cut + 1 : Nat) : Int))
  simpa only [List.setIfInBounds_toArray, List.set_cons_succ, List.set_cons_zero] using this
set_option maxHeartbeats 4000000 in
theorem ref_qput_no (G g' r u l : Nat) (Q : Row8) (cut : Nat) (A : Option Addr) (c : Nat) (w : World) (h : RqAt w G g' r u l Q cut A c) (hQ : Q.length ≤ 16) (hu : u ≤ 1099511627776) (hcut : cut ≤ 1000000) (A8 : Option Addr) (n8 c8 : Nat) (x : List UInt8) (hx : R8 w w.heap.size A8 n8 c8 x) (hn8 : n8 ≤ 100000) (hno : putB u Q x = false) :
    Calls Try.prog 23 #[.pointer (some ⟨G, 0, none⟩), .slice A8 n8 c8] w (RqPut G g' r u l Q cut A x w) := by
  have e1 : putQ u Q x = Q := by unfold putQ; rw [hno]; rfl
  have e2 : putC u Q x cut = cut + 1 := by unfold putC; rw [hno]; rfl
  unfold RqPut
  rw [e1, e2, hno]
  have hxl := hx.1
  have hU := h.cutUp
  have HU := Lib.hid (⟨hU, OnlyS.one (S := fun k => k = G) (Only.set G 2 w (.int .i64 ((cut + 1 : Nat) : Int))) rfl⟩ : _ ∧ _)
  have yc : IntKind.i64.wrap ((cut : Int) + 1) = ((cut + 1 : Nat) : Int) := by rw [IntKind.wrap_i64]; omega
  have hy1 : IntKind.i64.wrap ((n8 : Int) + 28) = ((n8 + 28 : Nat) : Int) := by rw [IntKind.wrap_i64]; omega
  obtain ⟨⟨k0, k1, k2⟩, f1, f2⟩ := h.cells
  have kb : w.cell? ⟨g', 1, none⟩ = some (.int .i64 (u : Int)) := Blk.cell h.bkt 1
  obtain ⟨n, hn⟩ : ∃ n, n = Q.length := ⟨_, rfl⟩
  rw [← hn] at k1 hQ
  have hp : ¬ (n < 16 ∧ n8 + 28 ≤ u) := by
    intro hh
    have : putB u Q x = true := by unfold putB costN; rw [decide_eq_true_eq, hxl, ← hn]; exact hh
    rw [this] at hno
    cases hno
  clear hU e1 e2 hno hx h hxl hcut
  obtain ⟨n28, hn28⟩ : ∃ n28, n28 = n8 + 28 := ⟨_, rfl⟩
  rw [← hn28] at hy1 hp
  obtain ⟨c2, hc2⟩ : ∃ c2, c2 = cut + 1 := ⟨_, rfl⟩
  rw [← hc2] at yc HU
  by_cases h16 : 16 ≤ n
  · have t1 : decide ((16 : Int) ≤ (n : Int)) = true := by simp; omega
    have t2 : decide (16 ≤ n) = true := by simpa using h16
    have HC2 := Lib.hid hc2
    clear hn hn28 hc2 hp
    go_enter Try.func23, Try.ntmps23
    go_wp2_with fail
    go_ret
    exact ⟨rfl, A, c, by rw [← HC2.out]; exact HU.out.1, HU.out.2, fun ad h => .inl ⟨by trivial, h⟩⟩
  · have t1 : decide ((16 : Int) ≤ (n : Int)) = false := by simp; omega
    have t2 : decide (16 ≤ n) = false := by simpa using h16
    have t3 : decide ((u : Int) < (n28 : Int)) = true := by simp; omega
    have t4 : decide (u < n28) = true := by simp; omega
    have t5 : u < n28 := by omega
    have HC2 := Lib.hid hc2
    clear hn hn28 hc2 hp
    go_enter Try.func23, Try.ntmps23
    go_wp2_with fail
    go_ret
    exact ⟨rfl, A, c, by rw [← HC2.out]; exact HU.out.1, HU.out.2, fun ad h => .inl ⟨by trivial, h⟩⟩
end Go.Proofs.Ytdjopbhjfnakdaa
