/- Reports that may be, kind by kind. Plain mathematics. A report that is being made, in memory, while a tape is read. No program's function. Contract: (*limelightkeep.Tape).Report. What stage 6's laws begin with: a tape of the numbers handed in; reports of it are read as they were written. No program's function. -/
import Derived.Test.YtnchgmemajmkjaaRcP
import Derived.Test.YtnchgmemajmkjaaRatP
import Derived.Test.YtnchgmemajmkjaaMt
import Derived.Test.YtnchgmemajmkjaaRcF
import Derived.Handy
import Derived.Test.YtnchgmemajmkjaaMe
import Derived.Test.YtnchgmemajmkjaaMf
import Derived.Test.YtnchgmemajmkjaaMd
import Derived.Test.YtnchgmemajmkjaaRegP
namespace Go.Proofs.Ytnchgmemajmkjaa
set_option linter.unusedVariables false
set_option linter.unusedSimpArgs false

/-- It is right, and short. -/
structure RepOk (r : Rep) : Prop where
  err : r.err = 0
  small : r.one.length ≤ 60
theorem err_of_fits {r : Rep} (hk : 1 ≤ r.kind ∧ r.kind ≤ 6) (hf : r.fits = true) (hb : r.bare = true) : r.err = 0 := by
  unfold Rep.err
  rw [if_neg (by omega), if_neg (by rw [hf]; decide), if_neg (by rw [hb]; decide)]
theorem ok_tup {K : Int} {src : Nat} {l : List Tup} (hK : K = 1 ∨ K = 2) (hl : l.length ≤ 4) (ho : ∀ t ∈ l, t.ok = true) : RepOk ⟨K, src, 0, l, [], [], 0, 0, 0, []⟩ := by
  refine ⟨err_of_fits (by simp only; omega) ?_ ?_, ?_⟩
  · unfold Rep.fits
    rw [if_pos hK]
    simp only [tupsOk, Bool.and_eq_true, List.all_eq_true, decide_eq_true_eq]
    exact ⟨ho, by omega⟩
  · rcases hK with rfl | rfl <;> simp [Rep.bare]
  · rw [Rep.one_len]
    unfold Rep.tail
    rw [if_pos hK]
    simp only [List.length_append, be_len, flat_len Tup.bytes 8 Tup.bytes_len]
    omega
theorem ok_pli {src about : Nat} : RepOk ⟨3, src, about, [], [], [], 0, 0, 0, []⟩ := by
  refine ⟨err_of_fits (by simp only; omega) ?_ ?_, ?_⟩
  · simp [Rep.fits]
  · simp [Rep.bare]
  · rw [Rep.one_len]
    simp [Rep.tail, be_len]
theorem ok_fir {src : Nat} {la : List Nat} {ln : List Int} (h1 : la.length = ln.length) (h2 : 1 ≤ la.length) (h3 : la.length ≤ 3) (hn : ∀ n ∈ ln, 0 ≤ n ∧ n ≤ 255) : RepOk ⟨4, src, 0, [], la, ln, 0, 0, 0, []⟩ := by
  refine ⟨err_of_fits (by simp only; omega) ?_ ?_, ?_⟩
  · simp only [Rep.fits, Bool.and_eq_true, List.all_eq_true, decide_eq_true_eq]
    rw [if_neg (by omega), if_pos trivial]
    simp only [Bool.and_eq_true, List.all_eq_true, decide_eq_true_eq]
    exact ⟨h1, h2, by omega, hn⟩
  · simp [Rep.bare]
  · have h := flat_len (fun x : Nat × Int => be x.1 4 ++ be (x.2.toNat * 16777216) 4) 8 (fun x => by simp [be_len]) (la.zip ln)
    rw [Rep.one_len]
    unfold Rep.tail
    rw [if_neg (by simp only; omega), if_neg (by simp only; omega), if_pos rfl]
    simp only [List.length_append, be_len, h, List.length_zip]
    omega
theorem ok_remb {src r : Nat} {la : List Nat} (h3 : la.length ≤ 3) (hr : dnN r 18 = r) : RepOk ⟨5, src, 0, [], la, [], r, 0, 0, []⟩ := by
  refine ⟨err_of_fits (by simp only; omega) ?_ ?_, ?_⟩
  · simp only [Rep.fits]
    rw [if_neg (by omega), if_neg (by omega), if_pos trivial]
    simp [hr]
    omega
  · simp [Rep.bare]
  · have h := flat_len (fun x : Nat => be x 4) 4 (fun x => be_len 4 x) la
    rw [Rep.one_len]
    unfold Rep.tail
    rw [if_neg (by simp only; omega), if_neg (by simp only; omega), if_neg (by simp only; omega), if_pos rfl]
    simp only [List.length_append, be_len, h, List.length_cons, List.length_nil]
    omega
theorem ok_other {ty count : Nat} {l : List UInt8} (h1 : 192 ≤ ty) (h2 : ty ≤ 203) (h3 : count ≤ 31) (h4 : l.length % 4 = 0) (h5 : l.length ≤ 12) : RepOk ⟨6, 0, 0, [], [], [], 0, (ty : Int), (count : Int), l⟩ := by
  refine ⟨err_of_fits (by simp only; omega) ?_ ?_, ?_⟩
  · have ho : oursTC (ty : Int) (count : Int) = false := by
      unfold oursTC
      have e1 : decide ((ty : Int) = 205) = false := by simp; omega
      have e2 : decide ((ty : Int) = 206) = false := by simp; omega
      rw [e1, e2]
      rfl
    simp only [Rep.fits]
    rw [if_neg (by omega), if_neg (by omega), if_neg (by omega), if_pos trivial]
    simp [ho]
    omega
  · simp [Rep.bare]
  · rw [Rep.one_len]
    unfold Rep.tail
    rw [if_neg (by simp only; omega), if_neg (by simp only; omega), if_neg (by simp only; omega), if_neg (by simp only; omega)]
    simp only
    omega
end Go.Proofs.Ytnchgmemajmkjaa
namespace Go.Proofs.Ytnchgmemajmkjaa
open Go.RowKit
set_option linter.unusedVariables false
set_option linter.unusedSimpArgs false
set_option maxRecDepth 20000

def zeroR : Array Value := #[.int .i64 0, .int .u32 0, .int .u32 0, .slice none 0 0, .slice none 0 0, .slice none 0 0, .int .u64 0, .int .i64 0, .int .i64 0, .slice none 0 0]
/-- Block R: the result's, still nought; block L: the report. -/
structure QMem (g : Nat) (w : World) (R L : Nat) (cs : Array Value) (W : World) : Prop where
  res : Blk W R 33 zeroR
  blk : Blk W L 33 cs
  moves : Moves g w W
  ord : g < w.heap.size ∧ w.heap.size ≤ R ∧ R < L ∧ L < W.heap.size
section
variable {g : Nat} {w W W' : World} {R L : Nat} {cs : Array Value}
theorem QMem.step (h : QMem g w R L cs W) (hm : Moves g W W') : QMem g w R L cs W' := by
  obtain ⟨o1, o2, o3, o4⟩ := h.ord
  have hs := hm.below.size
  exact ⟨(hm.other R (by omega) (by omega)).trans h.res, (hm.other L (by omega) (by omega)).trans h.blk, h.moves.trans hm, o1, o2, o3, by omega⟩
theorem QMem.on (h : QMem g w R L cs W) (hb : Below W.heap.size W W') : QMem g w R L cs W' := h.step (Moves.of h.moves.tape hb)
theorem QMem.set (h : QMem g w R L cs W) (i : Nat) (v : Value) : QMem g w R L (cs.setIfInBounds i v) (W.setCell ⟨L, i, none⟩ v) := by
  obtain ⟨o1, o2, o3, o4⟩ := h.ord
  have hb : Below w.heap.size W (W.setCell ⟨L, i, none⟩ v) := (Below.refl _ W).setCell (p := ⟨L, i, none⟩) (by simp only; omega) _
  have hs := hb.size
  exact ⟨(Below.heap_setCell _ _ _ _ (by simp only; omega)).trans h.res, h.blk.set_ i v, h.moves.and o1 hb, o1, o2, o3, by omega⟩
theorem QMem.grown {row : Option Nat} (h : QMem g w R L cs W) (hg : W.grownBy W' row) (hr : ∀ k, row = some k → L < k) : QMem g w R L cs W' := by
  obtain ⟨o1, o2, o3, o4⟩ := h.ord
  have hb : Below (L + 1) W W' := (Below.refl (L + 1) W).grown hg (by omega) fun k hk => by have := hr k hk; omega
  have hs := hb.size
  exact ⟨(hb.block R (by omega)).trans h.res, (hb.block L (by omega)).trans h.blk, h.moves.and o1 (hb.mono (by omega)), o1, o2, o3, by omega⟩
end
theorem But.of_moves {g : Nat} {w w' : World} (h : Moves g w w') : But g w w' := ⟨h.below.size, h.other⟩
theorem But.trans {g : Nat} {a b c : World} (h : But g a b) (k : But g b c) : But g a c := ⟨Nat.le_trans h.size k.size, fun i hi hne => (k.block i (Nat.lt_of_lt_of_le hi h.size) hne).trans (h.block i hi hne)⟩
/-- What stands while a report's fields are read from a tape: wr is the round's world. -/
def qF (g : Nat) (w : World) (R L : Nat) (cs : Array Value) (wr : World) : Frame where
  I := fun W => QMem g w R L cs W ∧ wr.heap.size ≤ W.heap.size
  Fr := fun a b => But g a b
  refl := fun w _ => ⟨Nat.le_refl _, fun _ _ _ => rfl⟩
  trans := fun a b c h k => h.trans k
  drew := fun W h => ⟨⟨h.1.on (below_drewN _ W 1), h.2⟩, ⟨Nat.le_refl _, fun _ _ _ => rfl⟩⟩
section
variable {g : Nat} {w wr : World} {R L : Nat} {cs : Array Value}
def qW : ClF (qF g w R L cs wr) := .pred (fun v _ => ∃ x : Nat, x < 4294967296 ∧ v = wv x) (fun _ _ _ _ _ _ h => h)
theorem qW_of {c : ClF (qF g w R L cs wr)} {v : Value} {W : World} (h : c.holds v W) (e : c = qW) : ∃ x : Nat, x < 4294967296 ∧ v = wv x := by subst e; exact h
def qI : ClF (qF g w R L cs wr) := .pred (fun v _ => ∃ x : Nat, x ≤ 255 ∧ v = .int .i64 (x : Int)) (fun _ _ _ _ _ _ h => h)
theorem qI_of {c : ClF (qF g w R L cs wr)} {v : Value} {W : World} (h : c.holds v W) (e : c = qI) : ∃ x : Nat, x ≤ 255 ∧ v = .int .i64 (x : Int) := by subst e; exact h
def qT : ClF (qF g w R L cs wr) := .pred (fun v _ => ∃ t : Tup, t.In ∧ t.ok = true ∧ v = .agg t.cells.toArray) (fun _ _ _ _ _ _ h => h)
theorem qT_of {c : ClF (qF g w R L cs wr)} {v : Value} {W : World} (h : c.holds v W) (e : c = qT) : ∃ t : Tup, t.In ∧ t.ok = true ∧ v = .agg t.cells.toArray := by subst e; exact h
/-- A new slice of one: in a block that is new in this region. -/
def qW1 : ClF (qF g w R L cs wr) := .pred (fun v W => ∃ x b : Nat, x < 4294967296 ∧ v = .slice (some ⟨b, 0, none⟩) 1 1 ∧ wr.heap.size ≤ b ∧ g < b ∧ R32 W W.heap.size (some ⟨b, 0, none⟩) 1 1 [x]) (fun v a b _ hf _ h => by
  obtain ⟨x, q, h1, h2, h3, h4, h5⟩ := h
  exact ⟨x, q, h1, h2, h3, h4, h5.but hf fun ad e => by injection e with e; subst e; simp only; omega⟩)
theorem qW1_of {c : ClF (qF g w R L cs wr)} {v : Value} {W : World} (h : c.holds v W) (e : c = qW1) : ∃ x b : Nat, x < 4294967296 ∧ v = .slice (some ⟨b, 0, none⟩) 1 1 ∧ wr.heap.size ≤ b ∧ g < b ∧ R32 W W.heap.size (some ⟨b, 0, none⟩) 1 1 [x] := by subst e; exact h
theorem RN.but {w w' : World} {A : Option Addr} {n c R : Nat} {l : List Int} (h : RN w w.heap.size A n c l) (hb : But R w w') (hA : ∀ ad, A = some ad → ad.block ≠ R) : RN w' w'.heap.size A n c l := ⟨h.1, h.2.1, h.2.2.but hb hA⟩
theorem RT.but {w w' : World} {A : Option Addr} {n c R : Nat} {l : List Tup} (h : RT w w.heap.size A n c l) (hb : But R w w') (hA : ∀ ad, A = some ad → ad.block ≠ R) : RT w' w'.heap.size A n c l := ⟨h.1, h.2.1, h.2.2.but hb hA⟩
def qI1 : ClF (qF g w R L cs wr) := .pred (fun v W => ∃ x b : Nat, x ≤ 255 ∧ v = .slice (some ⟨b, 0, none⟩) 1 1 ∧ wr.heap.size ≤ b ∧ g < b ∧ RN W W.heap.size (some ⟨b, 0, none⟩) 1 1 [(x : Int)]) (fun v a b _ hf _ h => by
  obtain ⟨x, q, h1, h2, h3, h4, h5⟩ := h
  exact ⟨x, q, h1, h2, h3, h4, h5.but hf fun ad e => by injection e with e; subst e; simp only; omega⟩)
theorem qI1_of {c : ClF (qF g w R L cs wr)} {v : Value} {W : World} (h : c.holds v W) (e : c = qI1) : ∃ x b : Nat, x ≤ 255 ∧ v = .slice (some ⟨b, 0, none⟩) 1 1 ∧ wr.heap.size ≤ b ∧ g < b ∧ RN W W.heap.size (some ⟨b, 0, none⟩) 1 1 [(x : Int)] := by subst e; exact h
def qT1 : ClF (qF g w R L cs wr) := .pred (fun v W => ∃ (t : Tup) (b : Nat), t.In ∧ t.ok = true ∧ v = .slice (some ⟨b, 0, none⟩) 1 1 ∧ wr.heap.size ≤ b ∧ g < b ∧ RT W W.heap.size (some ⟨b, 0, none⟩) 1 1 [t]) (fun v a b _ hf _ h => by
  obtain ⟨x, q, h1, h2, h3, h4, h5, h6⟩ := h
  exact ⟨x, q, h1, h2, h3, h4, h5, h6.but hf fun ad e => by injection e with e; subst e; simp only; omega⟩)
theorem qT1_of {c : ClF (qF g w R L cs wr)} {v : Value} {W : World} (h : c.holds v W) (e : c = qT1) : ∃ (t : Tup) (b : Nat), t.In ∧ t.ok = true ∧ v = .slice (some ⟨b, 0, none⟩) 1 1 ∧ wr.heap.size ≤ b ∧ g < b ∧ RT W W.heap.size (some ⟨b, 0, none⟩) 1 1 [t] := by subst e; exact h
/-- A row, one longer. -/
def qWs (l : List Nat) : ClF (qF g w R L cs wr) := .pred (fun v W => ∃ x : Nat, x < 4294967296 ∧ Own32 W (L + 1) v (l ++ [x])) (fun v a b ha hf _ h => by
  obtain ⟨x, h1, h2⟩ := h
  exact ⟨x, h1, own_but h2 hf.size hf.block (fun e => by have := (World.ownsRow.lt h2 _ e).1; have := ha.1.ord; omega)⟩)
theorem qWs_of {l : List Nat} {c : ClF (qF g w R L cs wr)} {v : Value} {W : World} (h : c.holds v W) (e : c = qWs l) : ∃ x : Nat, x < 4294967296 ∧ Own32 W (L + 1) v (l ++ [x]) := by subst e; exact h
def qIs (l : List Int) : ClF (qF g w R L cs wr) := .pred (fun v W => ∃ x : Nat, x ≤ 255 ∧ OwnI W (L + 1) v (l ++ [(x : Int)])) (fun v a b ha hf _ h => by
  obtain ⟨x, h1, h2⟩ := h
  exact ⟨x, h1, own_but h2 hf.size hf.block (fun e => by have := (World.ownsRow.lt h2 _ e).1; have := ha.1.ord; omega)⟩)
theorem qIs_of {l : List Int} {c : ClF (qF g w R L cs wr)} {v : Value} {W : World} (h : c.holds v W) (e : c = qIs l) : ∃ x : Nat, x ≤ 255 ∧ OwnI W (L + 1) v (l ++ [(x : Int)]) := by subst e; exact h
end
/-! ### What a tape's report is -/
def ReportOut (g : Nat) (w : World) (e : Ending) (w' : World) : Prop := ∃ x : Rv, e = .returned x.val ∧ IsR w' w'.heap.size x ∧ RepOk x.r ∧ x.Lies w.heap.size w'.heap.size ∧ Moves g w w'
/-- The report is laid into the result's block. -/
theorem QMem.final {g : Nat} {w W : World} {R L : Nat} {cs : Array Value} {x : Rv} (h : QMem g w R L cs W) (hx : IsR W W.heap.size x) (hok : RepOk x.r) (hl : x.Lies (R + 1) W.heap.size)
    {v0 v1 v2 v3 v4 v5 v6 v7 v8 v9 : Value} (hv : x.cells = [v0, v1, v2, v3, v4, v5, v6, v7, v8, v9]) :
    ReportOut g w (.returned x.val) (set10 W R v0 v1 v2 v3 v4 v5 v6 v7 v8 v9) ∧ Blk (set10 W R v0 v1 v2 v3 v4 v5 v6 v7 v8 v9) R 33 #[v0, v1, v2, v3, v4, v5, v6, v7, v8, v9] := by
  obtain ⟨o1, o2, o3, o4⟩ := h.ord
  refine ⟨⟨x, rfl, hx.but (but_set10 _ _ _ _ _ _ _ _ _ _ _ _) (fun ad had => by have := (hl ad had).1; omega), hok, fun ad had => ?_, h.moves.and o1 (set10_below o2)⟩, set10_blk h.res⟩
  have := hl ad had
  rw [set10_size]
  omega
end Go.Proofs.Ytnchgmemajmkjaa
namespace Go.Proofs.Ytnchgmemajmkjaa
open Go.RowKit
set_option linter.unusedVariables false
set_option linter.unusedSimpArgs false
set_option maxRecDepth 20000

theorem own_set {w : World} {size n L i : Nat} {e : TypeId} {v : Value} {xs : List Value} (h : w.ownsRow (L + 1) e size v n xs) (u : Value) : (w.setCell ⟨L, i, none⟩ u).ownsRow (L + 1) e size v n xs :=
  ownsRow_setCell_other h (a := ⟨L, i, none⟩) (fun e => by have := (World.ownsRow.lt h _ e).1; simp only at this; omega) _
theorem own32_set {w : World} {L : Nat} {v : Value} {l : List Nat} (h : Own32 w (L + 1) v l) (i : Nat) (u : Value) : Own32 (w.setCell ⟨L, i, none⟩ u) (L + 1) v l := own_set h u
theorem ownI_set {w : World} {L : Nat} {v : Value} {l : List Int} (h : OwnI w (L + 1) v l) (i : Nat) (u : Value) : OwnI (w.setCell ⟨L, i, none⟩ u) (L + 1) v l := own_set h u
theorem rn_in {l : List Int} (h : ∀ x ∈ l, 0 ≤ x ∧ x ≤ 255) : ∀ x ∈ l, I64 x := fun x hx => by have := h x hx; unfold I64; omega
set_option maxHeartbeats 8000000 in
theorem tape_report (g : Nat) (w : World) (hT : TapeAt w g) :
    Calls Try.prog 10 #[.pointer (some ⟨g, 0, none⟩)] w (ReportOut g w) := by
  have hg := hT.lt
  have hal := (Below.refl w.heap.size w).alloc (Nat.le_refl _) (.cells zeroR 33)
  have hT0 : TapeAt (w.alloc (.cells #[.int .i64 0, .int .u32 0, .int .u32 0, .slice none 0 0, .slice none 0 0, .slice none 0 0, .int .u64 0, .int .i64 0, .int .i64 0, .slice none 0 0] 33)) g := hT.on hal
  have hM0 := Moves.of hT hal
  have hB0 : Blk (w.alloc (.cells zeroR 33)) w.heap.size 33 zeroR := Blk.new _ _ _
  have hS0 : w.heap.size < (w.alloc (.cells zeroR 33)).heap.size := by simp
  go_enter Try.func10, Try.ntmps10
  go_wp2_with fail
  refine (next_any g 6 _ hT0 (by unfold I64; omega)).mono ?_
  rintro e w1 ⟨r1, rfl, h1a, h1b, hm1⟩
  obtain ⟨r1, rfl⟩ := Int.eq_ofNat_of_zero_le h1a
  go_wp2_with fail
  refine (tape_word g _ hm1.tape).mono ?_
  rintro e w2 ⟨src, rfl, hsrc, hm2⟩
  go_upto_region 2 with (fail)
  have hm12 := hm1.trans hm2
  have hB2 := (hm12.other _ hS0 (by omega)).trans hB0
  have hM2 := hM0.trans hm12
  have hS2 : w.heap.size < w2.heap.size := Nat.lt_of_lt_of_le hS0 hm12.below.size
  obtain ⟨K, hK⟩ : ∃ K : Nat, (1 : Int) + (r1 : Int) = (K : Int) := ⟨1 + r1, by omega⟩
  have hK1 : 1 ≤ K := by omega
  have hK6 : K ≤ 6 := by omega
  rw [hK]
  clear hm1 hm2 hm12 hB0 hS0 hM0 hT0 hal h1a h1b hK
  have hal2 := (Below.refl w2.heap.size w2).alloc (Nat.le_refl _) (.cells #[.int .i64 (K : Int), .int .u32 (src : Int), .int .u32 0, .slice none 0 0, .slice none 0 0, .slice none 0 0, .int .u64 0, .int .i64 0, .int .i64 0, .slice none 0 0] 33)
  have hQ : QMem g w w.heap.size w2.heap.size #[.int .i64 (K : Int), .int .u32 (src : Int), .int .u32 0, .slice none 0 0, .slice none 0 0, .slice none 0 0, .int .u64 0, .int .i64 0, .int .i64 0, .slice none 0 0] (w2.alloc (.cells #[.int .i64 (K : Int), .int .u32 (src : Int), .int .u32 0, .slice none 0 0, .slice none 0 0, .slice none 0 0, .int .u64 0, .int .i64 0, .int .i64 0, .slice none 0 0] 33)) :=
    ⟨(hal2.block _ hS2).trans hB2, Blk.new _ _ _, hM2.and hg (hal2.mono (Nat.le_of_lt hS2)), hg, Nat.le_refl _, hS2, by simp⟩
  clear hal2 hB2 hM2 hT
  generalize w2.alloc (.cells #[.int .i64 (K : Int), .int .u32 (src : Int), .int .u32 0, .slice none 0 0, .slice none 0 0, .slice none 0 0, .int .u64 0, .int .i64 0, .int .i64 0, .slice none 0 0] 33) = W at hQ ⊢
  generalize w2.heap.size = L at hQ hS2 ⊢
  obtain ⟨y0, _⟩ := blk10 hQ.blk
  by_cases h12 : K = 1 ∨ K = 2
  · have HK := Lib.hid h12
    rcases h12 with h1 | h1
    all_goals
      first | have g1 : ((K : Int) == 1) = true := (by simp; omega) | (have g1 : ((K : Int) == 1) = false := (by simp; omega); have g2 : ((K : Int) == 2) = true := (by simp; omega))
      clear h1
      go_wp2_with fail
      refine (next_any g 5 _ hQ.moves.tape (by unfold I64; omega)).mono ?_
      rintro e w3 ⟨r3, rfl, h3a, h3b, hm3⟩
      obtain ⟨r3, rfl⟩ := Int.eq_ofNat_of_zero_le h3a
      have hQ3 := hQ.step hm3
      clear hQ hm3 y0
      go_wp2_with fail
      go_loopw [4] (fun i wr => ∃ (k : Nat) (l : List Tup) (A : Option Addr) (c : Nat), i = .int .i64 (k : Int) ∧ l.length + k ≤ 4 ∧ (∀ t ∈ l, t.In ∧ t.ok = true) ∧ QMem g w w.heap.size L #[.int .i64 (K : Int), .int .u32 (src : Int), .int .u32 0, .slice A l.length c, .slice none 0 0, .slice none 0 0, .int .u64 0, .int .i64 0, .int .i64 0, .slice none 0 0] wr ∧ OwnT wr (L + 1) (.slice A l.length c) l) (fun i _ => (intOf i).toNat)
      case atStart => exact ⟨r3, [], none, 0, rfl, by simp; omega, by simp, hQ3, World.ownsRow_nil _ _ _ _⟩
      case round =>
        obtain ⟨k, l, A, c, rfl, hl, hok, hQ, hown⟩ := hrel
        clear hQ3
        by_cases hk : 0 < k
        · have hk' : (0 : Int) < (k : Int) := by omega
          go_upto_region 9 with (fail)
          have o4 := hQ.ord
          refine wp_region_ft (F := qF g w w.heap.size L #[.int .i64 (K : Int), .int .u32 (src : Int), .int .u32 0, .slice A l.length c, .slice none 0 0, .slice none 0 0, .int .u64 0, .int .i64 0, .int .i64 0, .slice none 0 0] wr) 5
            [.val (.pointer (some ⟨L, 3, none⟩)), .val (.slice A l.length c), .val (.pointer (some ⟨g, 0, none⟩)), qT, qT1]
            (by kernel_rfl) (by kernel_rfl) (by kernel_rfl) (by decide) (by kernel_rfl) ⟨hQ, Nat.le_refl _⟩ (AllOblF.upto ⟨?_, ?_, ?_, ?_, ?_, trivial⟩) ?_
          · refine OblF.pure rfl (.pointer (some ⟨L, 3, none⟩)) (by kernel_rfl) rfl fun ev W hI hf hx => ?_
            have e3 : ev (.tmp 3) = .pointer (some ⟨L, 0, none⟩) := holds_valF (hx (.tmp 3)) (by kernel_rfl)
            simp [execOp, e3, go_sem]
          · refine OblF.pure rfl (.slice A l.length c) (by kernel_rfl) rfl fun ev W hI hf hx => ?_
            have e3 : ev (.tmp 33) = .pointer (some ⟨L, 3, none⟩) := holds_valF (hx (.tmp 33)) (by kernel_rfl)
            have c5 := (blk10 hI.1.blk).2.2.2.1
            simp [execOp, e3, go_sem, c5]
          · exact OblF.move rfl _ (Or.inl rfl) (by kernel_rfl) rfl
          · refine OblF.call rfl 25 #[.tmp 35] _ rfl Try.f25 Try.func25 (by kernel_rfl) (by kernel_rfl) rfl fun ev W hI hf hx => ?_
            have e3 : ev (.tmp 35) = .pointer (some ⟨g, 0, none⟩) := holds_valF (hx (.tmp 35)) (by kernel_rfl)
            simp only [List.map_toArray, List.map_cons, List.map_nil, e3]
            refine (tape_tuple g W hI.1.moves.tape).mono ?_
            rintro e W' ⟨t, rfl, ht, hto, hm⟩
            exact ⟨_, rfl, ⟨hI.1.step hm, Nat.le_trans hI.2 hm.below.size⟩, But.of_moves hm, t, ht, hto, rfl⟩
          · refine OblF.step rfl fun ev W hI hf hx => ?_
            obtain ⟨t, ht, hto, e3⟩ : ∃ t : Tup, t.In ∧ t.ok = true ∧ ev (.tmp 36) = .agg t.cells.toArray := qT_of (hx (.tmp 36)) (by kernel_rfl)
            have hbW := (Below.refl W.heap.size W).alloc (Nat.le_refl _) (.cells t.cells.toArray 57)
            refine ⟨.slice (some ⟨W.heap.size, 0, none⟩) 1 1, W.alloc (.cells t.cells.toArray 57), ?_, ?_, ?_, ?_⟩
            · simp [execOp, e3, go_sem, Tup.cells]
            · exact ⟨hI.1.on hbW, Nat.le_trans hI.2 hbW.size⟩
            · exact But.of_below _ hbW
            · exact ⟨t, W.heap.size, ht, hto, rfl, hI.2, by have := hI.1.ord; omega, lit_rt t ht W _ rfl⟩
          intro a W hI hf hsz hdf hold hv
          have v33 : a.tmps.getD 33 undef = .pointer (some ⟨L, 3, none⟩) := holds_valF (hv 0 (by decide)) (by kernel_rfl)
          have v34 : a.tmps.getD 34 undef = .slice A l.length c := holds_valF (hv 1 (by decide)) (by kernel_rfl)
          obtain ⟨t, b, ht, hto, v37, hbw, hgb, hrt⟩ := qT1_of (hv 4 (by decide)) (by kernel_rfl)
          have v37' : a.tmps.getD 37 undef = .slice (some ⟨b, 0, none⟩) 1 1 := v37
          have ha := act_puts [33, 34, 35, 36, 37, 38, 39] (by kernel_rfl) hsz hdf hold
          simp only [putAll, v33, v34, v37'] at ha
          generalize a.tmps.getD 35 undef = x35 at ha
          generalize a.tmps.getD 36 undef = x36 at ha
          generalize a.tmps.getD 38 undef = x38 at ha
          generalize a.tmps.getD 39 undef = x39 at ha
          clear v33 v34 v37 v37' hv hold hsz hdf
          subst ha
          simp only [List.toList_toArray, List.drop_succ_cons, List.drop_zero, Act.put, List.setIfInBounds_toArray, List.set_cons_succ, List.set_cons_zero]
          have hQ9 : QMem g w w.heap.size L #[.int .i64 (K : Int), .int .u32 (src : Int), .int .u32 0, .slice A l.length c, .slice none 0 0, .slice none 0 0, .int .u64 0, .int .i64 0, .int .i64 0, .slice none 0 0] W := hI.1
          have hf' : But g wr.drew W := hf
          have hown9 : OwnT W (L + 1) (.slice A l.length c) l := own_but (World.ownsRow.drew hown) hf'.size hf'.block (fun e => by have := (World.ownsRow.lt hown _ e).1; omega)
          have hin : ∀ x ∈ l ++ [t], x.In := fun x hx => by
            rcases List.mem_append.1 hx with hx | hx
            · exact (hok x hx).1
            · rw [List.mem_singleton.1 hx]
              exact ht
          have hok9 : ∀ x ∈ l ++ [t], x.In ∧ x.ok = true := fun x hx => by
            rcases List.mem_append.1 hx with hx | hx
            · exact hok x hx
            · rw [List.mem_singleton.1 hx]
              exact ⟨ht, hto⟩
          have oL := hQ9.ord
          have HIN := Lib.hid hin
          have HOK := Lib.hid hok9
          have HLB := Lib.hid (show l.length + 1 ≤ 1000000 by omega)
          have hL1 : L + 1 ≤ W.heap.size := by omega
          have HLOW := Lib.hid (show ∀ k, (Value.slice A l.length c).ownBlock = some k → L < k from fun k hk => by have := (World.ownsRow.lt hown9 _ hk).1; omega)
          clear hI hf hf' hQ hown hin hok9 hok o4
          go_wp2_with (at_builtin; ((with_reducible refine wpList_appendT rfl (.tmp 34) (.tmp 37) rfl rfl (L + 1) (.slice A l.length c) l (by with_unfolding_all rfl) hown9 W.heap.size (some ⟨b, 0, none⟩) 1 1 [t] (by with_unfolding_all rfl) hrt HLB.out hL1 ?_); rintro v9 w9 ⟨ha9, hg9⟩; have hQ10 := hQ9.grown hg9 HLOW.out; obtain ⟨A9, c9, rfl, _⟩ := ha9.rt HIN.out; have d3 := (blk10 hQ10.blk).2.2.2.1; have f3 := hQ10.blk.frozen 3))
          have hQ11 := hQ10.set 3 (.slice A9 (l ++ [t]).length c9)
          have ha11 : OwnT (w9.setCell ⟨L, 3, none⟩ (.slice A9 (l ++ [t]).length c9)) (L + 1) (.slice A9 (l ++ [t]).length c9) (l ++ [t]) := own_set (i := 3) ha9 (.slice A9 (l ++ [t]).length c9)
          simp only [List.setIfInBounds_toArray, List.set_cons_succ, List.set_cons_zero] at hQ11
          have HLEN := Lib.hid (show (l ++ [t]).length = l.length + 1 by simp)
          rw [HLEN.out] at hQ11 ha11
          clear hQ10 hQ9 ha9 hg9 d3 f3 hrt hown9 HLOW
          go_roundw
          case rel => exact ⟨k - 1, l ++ [t], A9, c9, by congr 1; omega, by simp; omega, HOK.out, by rw [HLEN.out]; exact hQ11, by rw [HLEN.out]; exact ha11⟩
          case measure => simp [intOf]; omega
        · have hk' : ¬ (0 : Int) < (k : Int) := by omega
          obtain ⟨A', c', he', hrt⟩ := hown.rt (fun t ht => (hok t ht).1)
          injection he' with e1 e2 e3
          subst e1 e3
          have hlo := own_block hown
          have hKk := HK.out
          have HOK := Lib.hid (ok_tup (K := (K : Int)) (src := src) (l := l) (by omega) (by omega) (fun t ht => (hok t ht).2))
          have HISR : IsR wr wr.heap.size ⟨⟨(K : Int), src, 0, l, [], [], 0, 0, 0, []⟩, A, c, none, 0, none, 0, none, 0⟩ := ⟨hrt, R32.nil _ _ _ _, RN.nil _ _ _ _, R8.nil _ _ _ _, Rep.In.of (i64_small (by omega)) hsrc (by omega) (by omega) (i64_small (by omega)) (i64_small (by omega)) (by omega) (by simp) (by simp) (by simp)⟩
          clear hown hrt e2 hok HK hKk
          obtain ⟨y0, y1, y2, y3, y4, y5, y6, y7, y8, y9⟩ := blk10 hQ.blk
          obtain ⟨q0, q1, q2, q3, q4, q5, q6, q7, q8, q9⟩ := blk10 hQ.res
          obtain ⟨f0, f1, f2, f3, f4, f5, f6, f7, f8, f9⟩ := frz10 hQ.res
          have HF := Lib.hid (hQ.final (x := ⟨⟨(K : Int), src, 0, l, [], [], 0, 0, 0, []⟩, A, c, none, 0, none, 0, none, 0⟩) HISR HOK.out (fun ad had => by
            have := hQ.ord
            rcases had with had | had | had | had
            · have := hlo ad had
              omega
            · cases had
            · cases had
            · cases had) rfl)
          clear hQ hlo HISR
          go_wp2_with fail
          obtain ⟨hout, hblk⟩ := HF.out
          have hset : ((((((((((wr.setCell ⟨w.heap.size, 0, none⟩ (.int .i64 (K : Int))).setCell ⟨w.heap.size, 1, none⟩ (.int .u32 (src : Int))).setCell ⟨w.heap.size, 2, none⟩ (.int .u32 0)).setCell ⟨w.heap.size, 3, none⟩ (.slice A l.length c)).setCell ⟨w.heap.size, 4, none⟩ (.slice none 0 0)).setCell ⟨w.heap.size, 5, none⟩ (.slice none 0 0)).setCell ⟨w.heap.size, 6, none⟩ (.int .u64 0)).setCell ⟨w.heap.size, 7, none⟩ (.int .i64 0)).setCell ⟨w.heap.size, 8, none⟩ (.int .i64 0)).setCell ⟨w.heap.size, 9, none⟩ (.slice none 0 0)) = set10 wr w.heap.size (.int .i64 (K : Int)) (.int .u32 (src : Int)) (.int .u32 0) (.slice A l.length c) (.slice none 0 0) (.slice none 0 0) (.int .u64 0) (.int .i64 0) (.int .i64 0) (.slice none 0 0) := rfl
          rw [hset]
          clear hset HF y0 y1 y2 y3 y4 y5 y6 y7 y8 y9 q0 q1 q2 q3 q4 q5 q6 q7 q8 q9 f0 f1 f2 f3 f4 f5 f6 f7 f8 f9
          revert hout hblk
          generalize set10 wr w.heap.size (.int .i64 (K : Int)) (.int .u32 (src : Int)) (.int .u32 0) (.slice A l.length c) (.slice none 0 0) (.slice none 0 0) (.int .u64 0) (.int .i64 0) (.int .i64 0) (.slice none 0 0) = WF
          intro hout hblk
          obtain ⟨z0, z1, z2, z3, z4, z5, z6, z7, z8, z9⟩ := blk10 hblk
          clear hblk
          refine bodyPost_ret (by simp [results, Try.results10, go_sem, z0, z1, z2, z3, z4, z5, z6, z7, z8, z9]; try rfl) rfl ?_
          exact hout
  have n1 : ((K : Int) == 1) = false := by simp; omega
  have n2 : ((K : Int) == 2) = false := by simp; omega
  clear h12
  by_cases h3 : K = 3
  · have g3 : ((K : Int) == 3) = true := by simp; omega
    go_wp2_with fail
    refine (tape_word g _ hQ.moves.tape).mono ?_
    rintro e w3 ⟨ab, rfl, hab, hm3⟩
    have hQ3 := hQ.step hm3
    have hQ4 := hQ3.set 2 (.int .u32 (ab : Int))
    have d2 := (blk10 hQ3.blk).2.2.1
    have f2 := hQ3.blk.frozen 2
    have HOK := Lib.hid (show RepOk ⟨(K : Int), src, ab, [], [], [], 0, 0, 0, []⟩ by have e : (K : Int) = 3 := (by omega); rw [e]; exact ok_pli)
    simp only [List.setIfInBounds_toArray, List.set_cons_succ, List.set_cons_zero] at hQ4
    clear hQ hQ3 hm3 h3 y0
    go_upto_region 23 with (fail)
    clear d2 f2
    generalize w3.setCell ⟨L, 2, none⟩ (.int .u32 (ab : Int)) = wr at hQ4 ⊢
    have hQ := hQ4
    clear hQ4
    have HISR : IsR wr wr.heap.size ⟨⟨(K : Int), src, ab, [], [], [], 0, 0, 0, []⟩, none, 0, none, 0, none, 0, none, 0⟩ := ⟨RT.nil _ _ _ _, R32.nil _ _ _ _, RN.nil _ _ _ _, R8.nil _ _ _ _, Rep.In.of (i64_small (by omega)) hsrc hab (by omega) (i64_small (by omega)) (i64_small (by omega)) (by simp) (by simp) (by simp) (by simp)⟩
    obtain ⟨y0, y1, y2, y3, y4, y5, y6, y7, y8, y9⟩ := blk10 hQ.blk
    obtain ⟨q0, q1, q2, q3, q4, q5, q6, q7, q8, q9⟩ := blk10 hQ.res
    obtain ⟨f0, f1, f2, f3, f4, f5, f6, f7, f8, f9⟩ := frz10 hQ.res
    have HF := Lib.hid (hQ.final (x := ⟨⟨(K : Int), src, ab, [], [], [], 0, 0, 0, []⟩, none, 0, none, 0, none, 0, none, 0⟩) HISR HOK.out (fun ad had => by
      rcases had with had | had | had | had <;> cases had) rfl)
    clear hQ HISR
    go_wp2_with fail
    obtain ⟨hout, hblk⟩ := HF.out
    have hset : ((((((((((wr.setCell ⟨w.heap.size, 0, none⟩ (.int .i64 (K : Int))).setCell ⟨w.heap.size, 1, none⟩ (.int .u32 (src : Int))).setCell ⟨w.heap.size, 2, none⟩ (.int .u32 (ab : Int))).setCell ⟨w.heap.size, 3, none⟩ (.slice none 0 0)).setCell ⟨w.heap.size, 4, none⟩ (.slice none 0 0)).setCell ⟨w.heap.size, 5, none⟩ (.slice none 0 0)).setCell ⟨w.heap.size, 6, none⟩ (.int .u64 0)).setCell ⟨w.heap.size, 7, none⟩ (.int .i64 0)).setCell ⟨w.heap.size, 8, none⟩ (.int .i64 0)).setCell ⟨w.heap.size, 9, none⟩ (.slice none 0 0)) = set10 wr w.heap.size (.int .i64 (K : Int)) (.int .u32 (src : Int)) (.int .u32 (ab : Int)) (.slice none 0 0) (.slice none 0 0) (.slice none 0 0) (.int .u64 0) (.int .i64 0) (.int .i64 0) (.slice none 0 0) := rfl
    rw [hset]
    clear hset HF y0 y1 y2 y3 y4 y5 y6 y7 y8 y9 q0 q1 q2 q3 q4 q5 q6 q7 q8 q9 f0 f1 f2 f3 f4 f5 f6 f7 f8 f9
    revert hout hblk
    generalize set10 wr w.heap.size (.int .i64 (K : Int)) (.int .u32 (src : Int)) (.int .u32 (ab : Int)) (.slice none 0 0) (.slice none 0 0) (.slice none 0 0) (.int .u64 0) (.int .i64 0) (.int .i64 0) (.slice none 0 0) = WF
    intro hout hblk
    obtain ⟨z0, z1, z2, z3, z4, z5, z6, z7, z8, z9⟩ := blk10 hblk
    clear hblk
    refine bodyPost_ret (by simp [results, Try.results10, go_sem, z0, z1, z2, z3, z4, z5, z6, z7, z8, z9]; try rfl) rfl ?_
    exact hout
  have n3 : ((K : Int) == 3) = false := by simp; omega
  clear h3
  by_cases h4 : K = 4
  · have g4 : ((K : Int) == 4) = true := by simp; omega
    have HK := Lib.hid (show (K : Int) = 4 by omega)
    clear h4
    go_wp2_with fail
    refine (next_any g 3 _ hQ.moves.tape (by unfold I64; omega)).mono ?_
    rintro e w3 ⟨r3, rfl, h3a, h3b, hm3⟩
    obtain ⟨r3, rfl⟩ := Int.eq_ofNat_of_zero_le h3a
    have hQ3 := hQ.step hm3
    clear hQ hm3 y0
    go_wp2_with fail
    go_loopw [5] (fun i wr => ∃ (la : List Nat) (ln : List Int) (A : Option Addr) (c : Nat) (An : Option Addr) (cn : Nat), Hid (la.length = ln.length) ∧ la.length ≤ 3 ∧ (∀ x ∈ la, x < 4294967296) ∧ (∀ x ∈ ln, 0 ≤ x ∧ x ≤ 255) ∧ QMem g w w.heap.size L #[.int .i64 (K : Int), .int .u32 (src : Int), .int .u32 0, .slice none 0 0, .slice A la.length c, .slice An ln.length cn, .int .u64 0, .int .i64 0, .int .i64 0, .slice none 0 0] wr ∧ Own32 wr (L + 1) (.slice A la.length c) la ∧ OwnI wr (L + 1) (.slice An ln.length cn) ln ∧ ((∃ p : Nat, i = .int .i64 (p : Int) ∧ la.length + p ≤ 2) ∨ (i = .int .i64 (-1) ∧ 1 ≤ la.length))) (fun i _ => (intOf i + 1).toNat)
    case atStart => exact ⟨[], [], none, 0, none, 0, Lib.hid rfl, by simp, by simp, by simp, hQ3, World.ownsRow_nil _ _ _ _, World.ownsRow_nil _ _ _ _, .inl ⟨r3, rfl, by simp; omega⟩⟩
    case round =>
      obtain ⟨la, ln, A, c, An, cn, HLL, hl3, hla, hln, hQ, hoa, hon, hi⟩ := hrel
      clear hQ3
      rcases hi with ⟨p, rfl, hp⟩ | ⟨rfl, hp⟩
      · have hk' : (0 : Int) ≤ (p : Int) := by omega
        go_upto_region 16 with (fail)
        have o4 := hQ.ord
        have hLL := HLL.out
        have hka : ∀ k, (Value.slice A la.length c).ownBlock = some k → L + 1 ≤ k ∧ k < wr.heap.size := fun k hk => World.ownsRow.lt hoa k hk
        have hkn : ∀ k, (Value.slice An ln.length cn).ownBlock = some k → L + 1 ≤ k ∧ k < wr.heap.size := fun k hk => World.ownsRow.lt hon k hk
        refine wp_region_s (F := qF g w w.heap.size L #[.int .i64 (K : Int), .int .u32 (src : Int), .int .u32 0, .slice none 0 0, .slice A la.length c, .slice An ln.length cn, .int .u64 0, .int .i64 0, .int .i64 0, .slice none 0 0] wr) (fun i => i == 5 || i == 11) (fun i W => if i = 5 then Own32 W (L + 1) (.slice A la.length c) la else OwnI W (L + 1) (.slice An ln.length cn) ln) 13
          [.val (.pointer (some ⟨L, 4, none⟩)), .val (.slice A la.length c), .val (.pointer (some ⟨g, 0, none⟩)), qW, qW1, qWs la, .val (.pointer (some ⟨L, 5, none⟩)), .val (.slice An ln.length cn), .val (.pointer (some ⟨g, 0, none⟩)), qI, qI1, qIs ln, .val (.pointer (some ⟨L, 4, none⟩))]
          (by kernel_rfl) (by kernel_rfl) (by kernel_rfl) (by decide) (by kernel_rfl) ⟨hQ.on (below_drewN _ wr 1), Nat.le_refl _⟩ (fun i hi => by
            split
            · exact World.ownsRow.drew hoa
            · exact World.ownsRow.drew hon) (fun i a b _ ha hf _ hp => by
            split at hp
            · rename_i h6
              rw [if_pos h6]
              exact own_but hp hf.size hf.block (fun e => by have := (World.ownsRow.lt hp _ e).1; omega)
            · rename_i h6
              rw [if_neg h6]
              exact own_but hp hf.size hf.block (fun e => by have := (World.ownsRow.lt hp _ e).1; omega)) (AllOblS.upto ⟨?_, ?_, ?_, ?_, ?_, ?_, ?_, ?_, ?_, ?_, ?_, ?_, ?_, trivial⟩) ?_ ?_
        · intro _
          refine OblS.pure rfl (.pointer (some ⟨L, 4, none⟩)) (by kernel_rfl) rfl fun ev W hI hx => ?_
          have e3 : ev (.tmp 3) = .pointer (some ⟨L, 0, none⟩) := holds_valF (hx (.tmp 3)) (by kernel_rfl)
          simp [execOp, go_sem, e3]
        · intro _
          refine OblS.pure rfl (.slice A la.length c) (by kernel_rfl) rfl fun ev W hI hx => ?_
          have e53 : ev (.tmp 53) = .pointer (some ⟨L, 4, none⟩) := holds_valF (hx (.tmp 53)) (by kernel_rfl)
          have c5 := (blk10 hI.1.blk).2.2.2.2.1
          simp [execOp, go_sem, e53, c5]
        · intro _
          exact OblS.move rfl _ (Or.inl rfl) (by kernel_rfl) rfl
        · intro _
          refine OblS.call rfl 28 #[.tmp 55] _ rfl Try.f28 Try.func28 (by kernel_rfl) (by kernel_rfl) rfl fun ev W hI hx => ?_
          have e3 : ev (.tmp 55) = .pointer (some ⟨g, 0, none⟩) := holds_valF (hx (.tmp 55)) (by kernel_rfl)
          simp only [List.map_toArray, List.map_cons, List.map_nil, e3]
          refine (tape_word g W hI.1.moves.tape).mono ?_
          rintro e W' ⟨x, rfl, hx4, hm⟩
          exact ⟨_, rfl, ⟨hI.1.step hm, Nat.le_trans hI.2 hm.below.size⟩, But.of_moves hm, x, hx4, rfl⟩
        · intro _
          refine OblS.step rfl fun ev W hI hx => ?_
          obtain ⟨x, hx4, e3⟩ : ∃ x : Nat, x < 4294967296 ∧ ev (.tmp 56) = wv x := qW_of (hx (.tmp 56)) (by kernel_rfl)
          have hbW := (Below.refl W.heap.size W).alloc (Nat.le_refl _) (.cells #[.int .u32 (x : Int)] 27)
          refine ⟨.slice (some ⟨W.heap.size, 0, none⟩) 1 1, W.alloc (.cells #[.int .u32 (x : Int)] 27), ?_, ?_, ?_, ?_⟩
          · simp [execOp, e3, go_sem, wv]
          · exact ⟨hI.1.on hbW, Nat.le_trans hI.2 hbW.size⟩
          · exact But.of_below _ hbW
          · exact ⟨x, W.heap.size, hx4, rfl, hI.2, by have := hI.1.ord; omega, lit_r32 [x] _ 1 _ W rfl rfl (by simp [wv]) (by intro z hz; simp at hz; omega)⟩
        · exact fun hh => absurd hh (by decide)
        · intro _
          refine OblS.pure rfl (.pointer (some ⟨L, 5, none⟩)) (by kernel_rfl) rfl fun ev W hI hx => ?_
          have e3 : ev (.tmp 3) = .pointer (some ⟨L, 0, none⟩) := holds_valF (hx (.tmp 3)) (by kernel_rfl)
          simp [execOp, go_sem, e3]
        · intro _
          refine OblS.pure rfl (.slice An ln.length cn) (by kernel_rfl) rfl fun ev W hI hx => ?_
          have e59 : ev (.tmp 59) = .pointer (some ⟨L, 5, none⟩) := holds_valF (hx (.tmp 59)) (by kernel_rfl)
          have c5 := (blk10 hI.1.blk).2.2.2.2.2.1
          simp [execOp, go_sem, e59, c5]
        · intro _
          exact OblS.move rfl _ (Or.inl rfl) (by kernel_rfl) rfl
        · intro _
          refine OblS.call rfl 27 #[.tmp 61, .const (.int .i64 256)] _ rfl Try.f27 Try.func27 (by kernel_rfl) (by kernel_rfl) rfl fun ev W hI hx => ?_
          have e3 : ev (.tmp 61) = .pointer (some ⟨g, 0, none⟩) := holds_valF (hx (.tmp 61)) (by kernel_rfl)
          have e4 : ev (.const (.int .i64 256)) = .int .i64 256 := holds_valF (hx (.const (.int .i64 256))) (by kernel_rfl)
          simp only [List.map_toArray, List.map_cons, List.map_nil, e3, e4]
          refine (next_any g 256 W hI.1.moves.tape (by unfold I64; omega)).mono ?_
          rintro e W' ⟨x, rfl, hx0, hx1, hm⟩
          obtain ⟨x, rfl⟩ := Int.eq_ofNat_of_zero_le hx0
          exact ⟨_, rfl, ⟨hI.1.step hm, Nat.le_trans hI.2 hm.below.size⟩, But.of_moves hm, x, by omega, rfl⟩
        · intro _
          refine OblS.step rfl fun ev W hI hx => ?_
          obtain ⟨x, hx4, e3⟩ : ∃ x : Nat, x ≤ 255 ∧ ev (.tmp 62) = .int .i64 (x : Int) := qI_of (hx (.tmp 62)) (by kernel_rfl)
          have hbW := (Below.refl W.heap.size W).alloc (Nat.le_refl _) (.cells #[.int .i64 (x : Int)] 3)
          refine ⟨.slice (some ⟨W.heap.size, 0, none⟩) 1 1, W.alloc (.cells #[.int .i64 (x : Int)] 3), ?_, ?_, ?_, ?_⟩
          · simp [execOp, e3, go_sem]
          · exact ⟨hI.1.on hbW, Nat.le_trans hI.2 hbW.size⟩
          · exact But.of_below _ hbW
          · exact ⟨x, W.heap.size, hx4, rfl, hI.2, by have := hI.1.ord; omega, lit_rn (x : Int) (by unfold I64; omega) W⟩
        · exact fun hh => absurd hh (by decide)
        · intro _
          refine OblS.pure rfl (.pointer (some ⟨L, 4, none⟩)) (by kernel_rfl) rfl fun ev W hI hx => ?_
          have e3 : ev (.tmp 3) = .pointer (some ⟨L, 0, none⟩) := holds_valF (hx (.tmp 3)) (by kernel_rfl)
          simp [execOp, go_sem, e3]
        · intro i oo him hsp hoo
          have hi2 : i = 5 ∨ i = 11 := by simpa using hsp
          rcases hi2 with rfl | rfl
          · obtain rfl := (Option.some.inj hoo).symm
            refine OblX.step rfl fun ev W hI hpre hx => ?_
            have hpre : Own32 W (L + 1) (.slice A la.length c) la := hpre
            have e54 : ev (.tmp 54) = .slice A la.length c := holds_valF (hx (.tmp 54)) (by kernel_rfl)
            obtain ⟨x, gw, hx4, e57, hgw, hgg, hr⟩ := qW1_of (hx (.tmp 57)) (by kernel_rfl)
            obtain ⟨v', W', hrun, ho', hg', _⟩ := run_append32 (L + 1) _ la hpre W.heap.size (some ⟨gw, 0, none⟩) 1 1 [x] hr (by omega) (by have := hI.1.ord; omega)
            refine ⟨v', W', run_op_append (.tmp 54) (.tmp 57) 29 29 rfl rfl _ _ _ _ _ e54 e57 hrun, ⟨hI.1.grown hg' (fun k hk => by have := (hka k hk).1; omega), Nat.le_trans hI.2 hg'.size⟩, ?_, ?_, ?_⟩
            · intro j u hj hh
              by_cases hj18 : j < 13
              · have : j = 4 ∨ j = 10 ∨ j = 11 ∨ j = 0 ∨ j = 1 ∨ j = 2 ∨ j = 3 ∨ j = 6 ∨ j = 7 ∨ j = 8 ∨ j = 9 ∨ j = 12 := by omega
                rcases this with rfl | rfl | rfl | this
                · obtain ⟨y, b, a1, a2, a3, a4, a5⟩ := qW1_of hh rfl
                  exact ⟨y, b, a1, a2, a3, a4, newW_grown (wr := wr) hg' (fun k hk => (hka k hk).2) a3 a5⟩
                · obtain ⟨y, b, a1, a2, a3, a4, a5⟩ := qI1_of hh rfl
                  exact ⟨y, b, a1, a2, a3, a4, newI_grown (wr := wr) hg' (fun k hk => (hka k hk).2) a3 a5⟩
                · obtain ⟨y, a1, a2⟩ := qIs_of (l := ln) hh rfl
                  exact ⟨y, a1, own_grown a2 hg' (fun k hk hk' => own_ne hpre a2 k hk' hk)⟩
                · rcases this with rfl | rfl | rfl | rfl | rfl | rfl | rfl | rfl | rfl <;> exact hh
              · rw [tbl_out (n := 13) rfl (by omega)]
                trivial
            · intro j hj hsj hp
              have : j = 11 := by
                have : j = 5 ∨ j = 11 := by simpa using hsj
                omega
              subst this
              have hp : OwnI W (L + 1) (.slice An ln.length cn) ln := hp
              exact own_grown hp hg' (fun k hk hk' => own_ne hpre hp k hk' hk)
            · exact ⟨x, hx4, ho'⟩
          · obtain rfl := (Option.some.inj hoo).symm
            refine OblX.step rfl fun ev W hI hpre hx => ?_
            have hpre : OwnI W (L + 1) (.slice An ln.length cn) ln := hpre
            have e60 : ev (.tmp 60) = .slice An ln.length cn := holds_valF (hx (.tmp 60)) (by kernel_rfl)
            obtain ⟨x, gw, hx4, e63, hgw, hgg, hr⟩ := qI1_of (hx (.tmp 63)) (by kernel_rfl)
            obtain ⟨v', W', hrun, ho', hg', _⟩ := run_appendI (L + 1) _ ln hpre W.heap.size (some ⟨gw, 0, none⟩) 1 1 [(x : Int)] hr (by omega) (by have := hI.1.ord; omega)
            refine ⟨v', W', run_op_append (.tmp 60) (.tmp 63) 23 23 rfl rfl _ _ _ _ _ e60 e63 hrun, ⟨hI.1.grown hg' (fun k hk => by have := (hkn k hk).1; omega), Nat.le_trans hI.2 hg'.size⟩, ?_, ?_, ?_⟩
            · intro j u hj hh
              by_cases hj18 : j < 13
              · have : j = 4 ∨ j = 10 ∨ j = 5 ∨ j = 0 ∨ j = 1 ∨ j = 2 ∨ j = 3 ∨ j = 6 ∨ j = 7 ∨ j = 8 ∨ j = 9 ∨ j = 12 := by omega
                rcases this with rfl | rfl | rfl | this
                · obtain ⟨y, b, a1, a2, a3, a4, a5⟩ := qW1_of hh rfl
                  exact ⟨y, b, a1, a2, a3, a4, newW_grown (wr := wr) hg' (fun k hk => (hkn k hk).2) a3 a5⟩
                · obtain ⟨y, b, a1, a2, a3, a4, a5⟩ := qI1_of hh rfl
                  exact ⟨y, b, a1, a2, a3, a4, newI_grown (wr := wr) hg' (fun k hk => (hkn k hk).2) a3 a5⟩
                · obtain ⟨y, a1, a2⟩ := qWs_of (l := la) hh rfl
                  exact ⟨y, a1, own_grown a2 hg' (fun k hk hk' => own_ne a2 hpre k hk hk')⟩
                · rcases this with rfl | rfl | rfl | rfl | rfl | rfl | rfl | rfl | rfl <;> exact hh
              · rw [tbl_out (n := 13) rfl (by omega)]
                trivial
            · intro j hj hsj hp
              have : j = 5 := by
                have : j = 5 ∨ j = 11 := by simpa using hsj
                omega
              subst this
              have hp : Own32 W (L + 1) (.slice A la.length c) la := hp
              exact own_grown hp hg' (fun k hk hk' => own_ne hp hpre k hk hk')
            · exact ⟨x, hx4, ho'⟩
        intro aa W hI hsz hdf hold hv
        obtain ⟨x, hx4, p58⟩ := qWs_of (l := la) (hv 5 (by decide)) (by kernel_rfl)
        obtain ⟨y, hy4, p64⟩ := qIs_of (l := ln) (hv 11 (by decide)) (by kernel_rfl)
        have o58 : Own32 W (L + 1) (aa.tmps.getD 58 undef) (la ++ [x]) := p58
        have o64 : OwnI W (L + 1) (aa.tmps.getD 64 undef) (ln ++ [(y : Int)]) := p64
        clear p58 p64
        have v65 : aa.tmps.getD 65 undef = .pointer (some ⟨L, 4, none⟩) := holds_valF (hv 12 (by decide)) (by kernel_rfl)
        have hsa : ∀ z ∈ la ++ [x], z < 4294967296 := fun z hz => by
          rcases List.mem_append.1 hz with hz | hz
          · exact hla z hz
          · rw [List.mem_singleton.1 hz]
            exact hx4
        have hsn : ∀ z ∈ ln ++ [(y : Int)], 0 ≤ z ∧ z ≤ 255 := fun z hz => by
          rcases List.mem_append.1 hz with hz | hz
          · exact hln z hz
          · rw [List.mem_singleton.1 hz]
            omega
        obtain ⟨A7, c7, v58, _⟩ := o58.r32 hsa
        obtain ⟨A8, c8, v64, _⟩ := o64.rn (rn_in hsn)
        rw [v58] at o58
        rw [v64] at o64
        have HEA := Lib.hid (show (la ++ [x]).length = la.length + 1 by simp)
        have HEN := Lib.hid (show (ln ++ [(y : Int)]).length = ln.length + 1 by simp)
        rw [HEA.out] at o58 v58
        rw [HEN.out] at o64 v64
        have hQ9 : QMem g w w.heap.size L #[.int .i64 (K : Int), .int .u32 (src : Int), .int .u32 0, .slice none 0 0, .slice A la.length c, .slice An ln.length cn, .int .u64 0, .int .i64 0, .int .i64 0, .slice none 0 0] W := hI.1
        have ha := act_puts [53, 54, 55, 56, 57, 58, 59, 60, 61, 62, 63, 64, 65, 66] (by kernel_rfl) hsz hdf hold
        simp only [putAll, v58, v64, v65] at ha
        generalize aa.tmps.getD 53 undef = x53 at ha
        generalize aa.tmps.getD 54 undef = x54 at ha
        generalize aa.tmps.getD 55 undef = x55 at ha
        generalize aa.tmps.getD 56 undef = x56 at ha
        generalize aa.tmps.getD 57 undef = x57 at ha
        generalize aa.tmps.getD 59 undef = x59 at ha
        generalize aa.tmps.getD 60 undef = x60 at ha
        generalize aa.tmps.getD 61 undef = x61 at ha
        generalize aa.tmps.getD 62 undef = x62 at ha
        generalize aa.tmps.getD 63 undef = x63 at ha
        generalize aa.tmps.getD 66 undef = x66 at ha
        clear v58 v64 v65 hv hold hsz hdf hka hkn
        subst ha
        simp only [List.toList_toArray, List.drop_succ_cons, List.drop_zero, Act.put, List.setIfInBounds_toArray, List.set_cons_succ, List.set_cons_zero]
        have hQ10 := (hQ9.set 4 (.slice A7 (la.length + 1) c7)).set 5 (.slice A8 (ln.length + 1) c8)
        have o58b : Own32 ((W.setCell ⟨L, 4, none⟩ (.slice A7 (la.length + 1) c7)).setCell ⟨L, 5, none⟩ (.slice A8 (ln.length + 1) c8)) (L + 1) (.slice A7 (la.length + 1) c7) (la ++ [x]) := own32_set (own32_set o58 4 _) 5 _
        have o64b : OwnI ((W.setCell ⟨L, 4, none⟩ (.slice A7 (la.length + 1) c7)).setCell ⟨L, 5, none⟩ (.slice A8 (ln.length + 1) c8)) (L + 1) (.slice A8 (ln.length + 1) c8) (ln ++ [(y : Int)]) := ownI_set (ownI_set o64 4 _) 5 _
        simp only [List.setIfInBounds_toArray, List.set_cons_succ, List.set_cons_zero] at hQ10
        have k4 := (blk10 hQ9.blk).2.2.2.2.1
        have k5 := (blk10 hQ9.blk).2.2.2.2.2.1
        have f4 := hQ9.blk.frozen 4
        have f5 := hQ9.blk.frozen 5
        have HSA := Lib.hid hsa
        have HSN := Lib.hid hsn
        have HLL2 : Hid ((la ++ [x]).length = (ln ++ [(y : Int)]).length) := Lib.hid (by rw [HEA.out, HEN.out, HLL.out])
        clear hQ hQ9 hI o58 o64 hsa hsn hla hln hoa hon hLL
        go_wp2_with fail
        go_roundw
        case rel =>
          refine ⟨la ++ [x], ln ++ [(y : Int)], A7, c7, A8, c8, HLL2, by rw [HEA.out]; omega, HSA.out, HSN.out, by rw [HEA.out, HEN.out]; exact hQ10, by rw [HEA.out]; exact o58b, by rw [HEN.out]; exact o64b, ?_⟩
          rw [HEA.out]
          rcases Nat.eq_zero_or_pos p with h0 | h0
          · exact .inr ⟨by subst h0; rfl, by omega⟩
          · exact .inl ⟨p - 1, by (have e : ((p - 1 : Nat) : Int) = (p : Int) - 1 := by omega); rw [e], by omega⟩
        case measure => simp [intOf]
      · have HOK := Lib.hid (show RepOk ⟨(K : Int), src, 0, [], la, ln, 0, 0, 0, []⟩ by rw [HK.out]; exact ok_fir HLL.out hp hl3 hln)
        obtain ⟨A', c', he', hra⟩ := hoa.r32 hla
        injection he' with e1 e2 e3
        subst e1 e3
        clear e2
        obtain ⟨A', c', he', hrn⟩ := hon.rn (rn_in hln)
        injection he' with e1 e2 e3
        subst e1 e3
        have hlo := own_block hoa
        have hln2 := own_block hon
        have hLL := HLL.out
        have HISR : IsR wr wr.heap.size ⟨⟨(K : Int), src, 0, [], la, ln, 0, 0, 0, []⟩, none, 0, A, c, An, cn, none, 0⟩ := ⟨RT.nil _ _ _ _, hra, hrn, R8.nil _ _ _ _, Rep.In.of (i64_small (by omega)) hsrc (by omega) (by omega) (i64_small (by omega)) (i64_small (by omega)) (by simp) (by omega) (by omega) (by simp)⟩
        clear hoa hon hra hrn e2 hla hln HK hLL
        obtain ⟨y0, y1, y2, y3, y4, y5, y6, y7, y8, y9⟩ := blk10 hQ.blk
        obtain ⟨q0, q1, q2, q3, q4, q5, q6, q7, q8, q9⟩ := blk10 hQ.res
        obtain ⟨f0, f1, f2, f3, f4, f5, f6, f7, f8, f9⟩ := frz10 hQ.res
        have HF := Lib.hid (hQ.final (x := ⟨⟨(K : Int), src, 0, [], la, ln, 0, 0, 0, []⟩, none, 0, A, c, An, cn, none, 0⟩) HISR HOK.out (fun ad had => by
          have := hQ.ord
          rcases had with had | had | had | had
          · cases had
          · have := hlo ad had
            omega
          · have := hln2 ad had
            omega
          · cases had) rfl)
        clear hQ hlo hln2 HISR
        go_wp2_with fail
        obtain ⟨hout, hblk⟩ := HF.out
        have hset : ((((((((((wr.setCell ⟨w.heap.size, 0, none⟩ (.int .i64 (K : Int))).setCell ⟨w.heap.size, 1, none⟩ (.int .u32 (src : Int))).setCell ⟨w.heap.size, 2, none⟩ (.int .u32 0)).setCell ⟨w.heap.size, 3, none⟩ (.slice none 0 0)).setCell ⟨w.heap.size, 4, none⟩ (.slice A la.length c)).setCell ⟨w.heap.size, 5, none⟩ (.slice An ln.length cn)).setCell ⟨w.heap.size, 6, none⟩ (.int .u64 0)).setCell ⟨w.heap.size, 7, none⟩ (.int .i64 0)).setCell ⟨w.heap.size, 8, none⟩ (.int .i64 0)).setCell ⟨w.heap.size, 9, none⟩ (.slice none 0 0)) = set10 wr w.heap.size (.int .i64 (K : Int)) (.int .u32 (src : Int)) (.int .u32 0) (.slice none 0 0) (.slice A la.length c) (.slice An ln.length cn) (.int .u64 0) (.int .i64 0) (.int .i64 0) (.slice none 0 0) := rfl
        rw [hset]
        clear hset HF y0 y1 y2 y3 y4 y5 y6 y7 y8 y9 q0 q1 q2 q3 q4 q5 q6 q7 q8 q9 f0 f1 f2 f3 f4 f5 f6 f7 f8 f9
        revert hout hblk
        generalize set10 wr w.heap.size (.int .i64 (K : Int)) (.int .u32 (src : Int)) (.int .u32 0) (.slice none 0 0) (.slice A la.length c) (.slice An ln.length cn) (.int .u64 0) (.int .i64 0) (.int .i64 0) (.slice none 0 0) = WF
        intro hout hblk
        obtain ⟨z0, z1, z2, z3, z4, z5, z6, z7, z8, z9⟩ := blk10 hblk
        clear hblk
        refine bodyPost_ret (by simp [results, Try.results10, go_sem, z0, z1, z2, z3, z4, z5, z6, z7, z8, z9]; try rfl) rfl ?_
        exact hout
  have n4 : ((K : Int) == 4) = false := by simp; omega
  clear h4
  by_cases h5 : K = 5
  · have g5 : ((K : Int) == 5) = true := by simp; omega
    have HK := Lib.hid (show (K : Int) = 5 by omega)
    clear h5
    go_wp2_with fail
    refine (next_any g 1048576 _ hQ.moves.tape (by unfold I64; omega)).mono ?_
    rintro e w3 ⟨r3, rfl, h3a, h3b, hm3⟩
    obtain ⟨r3, rfl⟩ := Int.eq_ofNat_of_zero_le h3a
    have hQ3 := hQ.step hm3
    clear hQ hm3 y0
    go_wp2_with fail
    refine (next_any g 900 _ hQ3.moves.tape (by unfold I64; omega)).mono ?_
    rintro e w4 ⟨r4, rfl, h4a, h4b, hm4⟩
    obtain ⟨r4, rfl⟩ := Int.eq_ofNat_of_zero_le h4a
    have hQ4 := hQ3.step hm4
    clear hQ3 hm4
    have hmul : ∃ p : Nat, p < 18446744073709551616 ∧ IntKind.u64.wrap ((r3 : Int) * (1 + (r4 : Int))) = (p : Int) := by
      have h1 : r3 * (1 + r4) ≤ 1048576 * 900 := Nat.mul_le_mul (by omega) (by omega)
      refine ⟨r3 * (1 + r4), by omega, ?_⟩
      have h2 : (r3 : Int) * (1 + (r4 : Int)) = ((r3 * (1 + r4) : Nat) : Int) := by push_cast; rfl
      rw [h2, IntKind.wrap_u64]
      omega
    obtain ⟨p, hp, hpe⟩ := hmul
    have hdown := fun W => ref_down_s p 18 W hp (by omega)
    rw [dnR_in hp (by omega)] at hdown
    have hdl : dnN p (18 : Int).toNat < 18446744073709551616 := Nat.lt_of_le_of_lt (dnN_le _ _) hp
    have hda := dnN_again p 18
    have ht18 : (18 : Int).toNat = 18 := rfl
    rw [ht18] at hdown hdl
    generalize dnN p 18 = d at hdown hdl hda
    have HDA := Lib.hid hda
    clear hda ht18
    go_wp2_with fail
    ((with_reducible refine (hdown w4).mono ?_); rintro e w5 ⟨rfl, rfl⟩)
    have d6 := (blk10 hQ4.blk).2.2.2.2.2.2.1
    have f6 := hQ4.blk.frozen 6
    have hQ5 := hQ4.set 6 (.int .u64 (d : Int))
    simp only [List.setIfInBounds_toArray, List.set_cons_succ, List.set_cons_zero] at hQ5
    clear hdown hpe hp hQ4
    go_upto_region 19 with (fail)
    clear d6 f6
    generalize w4.setCell ⟨L, 6, none⟩ (.int .u64 (d : Int)) = V at hQ5 ⊢
    go_wp2_with fail
    refine (next_any g 4 _ hQ5.moves.tape (by unfold I64; omega)).mono ?_
    rintro e w6 ⟨r6, rfl, h6a, h6b, hm6⟩
    obtain ⟨r6, rfl⟩ := Int.eq_ofNat_of_zero_le h6a
    have hQ6 := hQ5.step hm6
    clear hQ5 hm6
    go_wp2_with fail
    go_loopw [6] (fun i wr => ∃ (k : Nat) (la : List Nat) (A : Option Addr) (c : Nat), i = .int .i64 (k : Int) ∧ la.length + k ≤ 3 ∧ (∀ x ∈ la, x < 4294967296) ∧ QMem g w w.heap.size L #[.int .i64 (K : Int), .int .u32 (src : Int), .int .u32 0, .slice none 0 0, .slice A la.length c, .slice none 0 0, .int .u64 (d : Int), .int .i64 0, .int .i64 0, .slice none 0 0] wr ∧ Own32 wr (L + 1) (.slice A la.length c) la) (fun i _ => (intOf i).toNat)
    case atStart => exact ⟨r6, [], none, 0, rfl, by simp; omega, by simp, hQ6, World.ownsRow_nil _ _ _ _⟩
    case round =>
      obtain ⟨k, la, A, c, rfl, hl, hok, hQ, hown⟩ := hrel
      clear hQ6
      by_cases hk : 0 < k
      · have hk' : (0 : Int) < (k : Int) := by omega
        go_upto_region 22 with (fail)
        have o4 := hQ.ord
        refine wp_region_ft (F := qF g w w.heap.size L #[.int .i64 (K : Int), .int .u32 (src : Int), .int .u32 0, .slice none 0 0, .slice A la.length c, .slice none 0 0, .int .u64 (d : Int), .int .i64 0, .int .i64 0, .slice none 0 0] wr) 5
          [.val (.pointer (some ⟨L, 4, none⟩)), .val (.slice A la.length c), .val (.pointer (some ⟨g, 0, none⟩)), qW, qW1]
          (by kernel_rfl) (by kernel_rfl) (by kernel_rfl) (by decide) (by kernel_rfl) ⟨hQ, Nat.le_refl _⟩ (AllOblF.upto ⟨?_, ?_, ?_, ?_, ?_, trivial⟩) ?_
        · refine OblF.pure rfl (.pointer (some ⟨L, 4, none⟩)) (by kernel_rfl) rfl fun ev W hI hf hx => ?_
          have e3 : ev (.tmp 3) = .pointer (some ⟨L, 0, none⟩) := holds_valF (hx (.tmp 3)) (by kernel_rfl)
          simp [execOp, e3, go_sem]
        · refine OblF.pure rfl (.slice A la.length c) (by kernel_rfl) rfl fun ev W hI hf hx => ?_
          have e3 : ev (.tmp 85) = .pointer (some ⟨L, 4, none⟩) := holds_valF (hx (.tmp 85)) (by kernel_rfl)
          have c5 := (blk10 hI.1.blk).2.2.2.2.1
          simp [execOp, e3, go_sem, c5]
        · exact OblF.move rfl _ (Or.inl rfl) (by kernel_rfl) rfl
        · refine OblF.call rfl 28 #[.tmp 87] _ rfl Try.f28 Try.func28 (by kernel_rfl) (by kernel_rfl) rfl fun ev W hI hf hx => ?_
          have e3 : ev (.tmp 87) = .pointer (some ⟨g, 0, none⟩) := holds_valF (hx (.tmp 87)) (by kernel_rfl)
          simp only [List.map_toArray, List.map_cons, List.map_nil, e3]
          refine (tape_word g W hI.1.moves.tape).mono ?_
          rintro e W' ⟨t, rfl, ht, hm⟩
          exact ⟨_, rfl, ⟨hI.1.step hm, Nat.le_trans hI.2 hm.below.size⟩, But.of_moves hm, t, ht, rfl⟩
        · refine OblF.step rfl fun ev W hI hf hx => ?_
          obtain ⟨x, hx4, e3⟩ : ∃ x : Nat, x < 4294967296 ∧ ev (.tmp 88) = wv x := qW_of (hx (.tmp 88)) (by kernel_rfl)
          have hbW := (Below.refl W.heap.size W).alloc (Nat.le_refl _) (.cells #[.int .u32 (x : Int)] 27)
          refine ⟨.slice (some ⟨W.heap.size, 0, none⟩) 1 1, W.alloc (.cells #[.int .u32 (x : Int)] 27), ?_, ?_, ?_, ?_⟩
          · simp [execOp, e3, go_sem, wv]
          · exact ⟨hI.1.on hbW, Nat.le_trans hI.2 hbW.size⟩
          · exact But.of_below _ hbW
          · exact ⟨x, W.heap.size, hx4, rfl, hI.2, by have := hI.1.ord; omega, lit_r32 [x] _ 1 _ W rfl rfl (by simp [wv]) (by intro z hz; simp at hz; omega)⟩
        intro a W hI hf hsz hdf hold hv
        have v85 : a.tmps.getD 85 undef = .pointer (some ⟨L, 4, none⟩) := holds_valF (hv 0 (by decide)) (by kernel_rfl)
        have v86 : a.tmps.getD 86 undef = .slice A la.length c := holds_valF (hv 1 (by decide)) (by kernel_rfl)
        obtain ⟨x, b, hx4, v89, hbw, hgb, hrt⟩ := qW1_of (hv 4 (by decide)) (by kernel_rfl)
        have v89' : a.tmps.getD 89 undef = .slice (some ⟨b, 0, none⟩) 1 1 := v89
        have ha := act_puts [85, 86, 87, 88, 89, 90, 91] (by kernel_rfl) hsz hdf hold
        simp only [putAll, v85, v86, v89'] at ha
        generalize a.tmps.getD 87 undef = x87 at ha
        generalize a.tmps.getD 88 undef = x88 at ha
        generalize a.tmps.getD 90 undef = x90 at ha
        generalize a.tmps.getD 91 undef = x91 at ha
        clear v85 v86 v89 v89' hv hold hsz hdf
        subst ha
        simp only [List.toList_toArray, List.drop_succ_cons, List.drop_zero, Act.put, List.setIfInBounds_toArray, List.set_cons_succ, List.set_cons_zero]
        have hQ9 : QMem g w w.heap.size L #[.int .i64 (K : Int), .int .u32 (src : Int), .int .u32 0, .slice none 0 0, .slice A la.length c, .slice none 0 0, .int .u64 (d : Int), .int .i64 0, .int .i64 0, .slice none 0 0] W := hI.1
        have hf' : But g wr.drew W := hf
        have hown9 : Own32 W (L + 1) (.slice A la.length c) la := own_but (World.ownsRow.drew hown) hf'.size hf'.block (fun e => by have := (World.ownsRow.lt hown _ e).1; omega)
        have hin : ∀ z ∈ la ++ [x], z < 4294967296 := fun z hz => by
          rcases List.mem_append.1 hz with hz | hz
          · exact hok z hz
          · rw [List.mem_singleton.1 hz]
            exact hx4
        have oL := hQ9.ord
        have HIN := Lib.hid hin
        have HLB := Lib.hid (show la.length + 1 ≤ 1000000 by omega)
        have hL1 : L + 1 ≤ W.heap.size := by omega
        have HLOW := Lib.hid (show ∀ k, (Value.slice A la.length c).ownBlock = some k → L < k from fun k hk => by have := (World.ownsRow.lt hown9 _ hk).1; omega)
        clear hI hf hf' hQ hown hin hok o4
        go_wp2_with (at_builtin; ((with_reducible refine wpList_append32 rfl (.tmp 86) (.tmp 89) rfl rfl (L + 1) (.slice A la.length c) la (by with_unfolding_all rfl) hown9 W.heap.size (some ⟨b, 0, none⟩) 1 1 [x] (by with_unfolding_all rfl) hrt HLB.out hL1 ?_); rintro v9 w9 ⟨ha9, hg9⟩; have hQ10 := hQ9.grown hg9 HLOW.out; obtain ⟨A9, c9, rfl, _⟩ := ha9.r32 HIN.out; have d3 := (blk10 hQ10.blk).2.2.2.2.1; have f3 := hQ10.blk.frozen 4))
        have hQ11 := hQ10.set 4 (.slice A9 (la ++ [x]).length c9)
        have ha11 : Own32 (w9.setCell ⟨L, 4, none⟩ (.slice A9 (la ++ [x]).length c9)) (L + 1) (.slice A9 (la ++ [x]).length c9) (la ++ [x]) := own_set (i := 4) ha9 (.slice A9 (la ++ [x]).length c9)
        simp only [List.setIfInBounds_toArray, List.set_cons_succ, List.set_cons_zero] at hQ11
        have HLEN := Lib.hid (show (la ++ [x]).length = la.length + 1 by simp)
        rw [HLEN.out] at hQ11 ha11
        clear hQ10 hQ9 ha9 hg9 d3 f3 hrt hown9 HLOW
        go_roundw
        case rel => exact ⟨k - 1, la ++ [x], A9, c9, by congr 1; omega, by simp; omega, HIN.out, by rw [HLEN.out]; exact hQ11, by rw [HLEN.out]; exact ha11⟩
        case measure => simp [intOf]; omega
      · have hk' : ¬ (0 : Int) < (k : Int) := by omega
        obtain ⟨A', c', he', hra⟩ := hown.r32 hok
        injection he' with e1 e2 e3
        subst e1 e3
        have hlo := own_block hown
        have HOK := Lib.hid (show RepOk ⟨(K : Int), src, 0, [], la, [], d, 0, 0, []⟩ by rw [HK.out]; exact ok_remb (by omega) HDA.out)
        have HISR : IsR wr wr.heap.size ⟨⟨(K : Int), src, 0, [], la, [], d, 0, 0, []⟩, none, 0, A, c, none, 0, none, 0⟩ := ⟨RT.nil _ _ _ _, hra, RN.nil _ _ _ _, R8.nil _ _ _ _, Rep.In.of (i64_small (by omega)) hsrc (by omega) hdl (i64_small (by omega)) (i64_small (by omega)) (by simp) (by omega) (by simp) (by simp)⟩
        clear hown hra e2 hok HK
        obtain ⟨y0, y1, y2, y3, y4, y5, y6, y7, y8, y9⟩ := blk10 hQ.blk
        obtain ⟨q0, q1, q2, q3, q4, q5, q6, q7, q8, q9⟩ := blk10 hQ.res
        obtain ⟨f0, f1, f2, f3, f4, f5, f6, f7, f8, f9⟩ := frz10 hQ.res
        have HF := Lib.hid (hQ.final (x := ⟨⟨(K : Int), src, 0, [], la, [], d, 0, 0, []⟩, none, 0, A, c, none, 0, none, 0⟩) HISR HOK.out (fun ad had => by
          have := hQ.ord
          rcases had with had | had | had | had
          · cases had
          · have := hlo ad had
            omega
          · cases had
          · cases had) rfl)
        clear hQ hlo HISR
        go_wp2_with fail
        obtain ⟨hout, hblk⟩ := HF.out
        have hset : ((((((((((wr.setCell ⟨w.heap.size, 0, none⟩ (.int .i64 (K : Int))).setCell ⟨w.heap.size, 1, none⟩ (.int .u32 (src : Int))).setCell ⟨w.heap.size, 2, none⟩ (.int .u32 0)).setCell ⟨w.heap.size, 3, none⟩ (.slice none 0 0)).setCell ⟨w.heap.size, 4, none⟩ (.slice A la.length c)).setCell ⟨w.heap.size, 5, none⟩ (.slice none 0 0)).setCell ⟨w.heap.size, 6, none⟩ (.int .u64 (d : Int))).setCell ⟨w.heap.size, 7, none⟩ (.int .i64 0)).setCell ⟨w.heap.size, 8, none⟩ (.int .i64 0)).setCell ⟨w.heap.size, 9, none⟩ (.slice none 0 0)) = set10 wr w.heap.size (.int .i64 (K : Int)) (.int .u32 (src : Int)) (.int .u32 0) (.slice none 0 0) (.slice A la.length c) (.slice none 0 0) (.int .u64 (d : Int)) (.int .i64 0) (.int .i64 0) (.slice none 0 0) := rfl
        rw [hset]
        clear hset HF y0 y1 y2 y3 y4 y5 y6 y7 y8 y9 q0 q1 q2 q3 q4 q5 q6 q7 q8 q9 f0 f1 f2 f3 f4 f5 f6 f7 f8 f9
        revert hout hblk
        generalize set10 wr w.heap.size (.int .i64 (K : Int)) (.int .u32 (src : Int)) (.int .u32 0) (.slice none 0 0) (.slice A la.length c) (.slice none 0 0) (.int .u64 (d : Int)) (.int .i64 0) (.int .i64 0) (.slice none 0 0) = WF
        intro hout hblk
        obtain ⟨z0, z1, z2, z3, z4, z5, z6, z7, z8, z9⟩ := blk10 hblk
        clear hblk
        refine bodyPost_ret (by simp [results, Try.results10, go_sem, z0, z1, z2, z3, z4, z5, z6, z7, z8, z9]; try rfl) rfl ?_
        exact hout
  have n5 : ((K : Int) == 5) = false := by simp; omega
  clear h5
  go_wp2_with fail
  refine (next_any g 12 _ hQ.moves.tape (by unfold I64; omega)).mono ?_
  rintro e w3 ⟨r3, rfl, h3a, h3b, hm3⟩
  obtain ⟨r3, rfl⟩ := Int.eq_ofNat_of_zero_le h3a
  have hQ3 := hQ.step hm3
  clear hQ hm3 y0
  go_wp2_with fail
  refine (next_any g 32 _ hQ3.moves.tape (by unfold I64; omega)).mono ?_
  rintro e w4 ⟨r4, rfl, h4a, h4b, hm4⟩
  obtain ⟨r4, rfl⟩ := Int.eq_ofNat_of_zero_le h4a
  have hQ4 := hQ3.step hm4
  clear hQ3 hm4
  go_wp2_with fail
  refine (tape_bytes g 12 _ hQ4.moves.tape (by omega)).mono ?_
  rintro e w5 ⟨A5, c5, l5, rfl, hl5, hR5, hm5, _⟩
  have hQ5 := hQ4.step hm5
  clear hQ4 hm5
  have hpad := ref_pad_own A5 l5.length c5 l5 w5 hR5 (by omega) 4
  have hb4 : (l5 ++ List.replicate (padN l5.length 4) (0 : UInt8)).length % 4 = 0 ∧ (l5 ++ List.replicate (padN l5.length 4) (0 : UInt8)).length ≤ 12 := by
    have e : padN l5.length 4 = (4 - l5.length % 4) % 4 := by simp [padN]
    rw [List.length_append, List.length_replicate, e]
    omega
  generalize l5 ++ List.replicate (padN l5.length 4) (0 : UInt8) = B at hpad hb4
  go_wp2_with fail
  ((with_reducible refine hpad.mono ?_); rintro e w6 ⟨v6, rfl, ho6, hb6⟩)
  have hQ := hQ5.on hb6
  obtain ⟨A7, c7, rfl, hR7⟩ := ho6.r8
  have hlo := own_block ho6
  have o5 := hQ5.ord
  obtain ⟨ty, hty⟩ : ∃ ty : Nat, (192 : Int) + (r3 : Int) = (ty : Int) := ⟨192 + r3, by omega⟩
  have hty1 : 192 ≤ ty := by omega
  have hty2 : ty ≤ 203 := by omega
  rw [hty]
  have HOK := Lib.hid (ok_other (ty := ty) (count := r4) (l := B) hty1 hty2 (by omega) hb4.1 hb4.2)
  have HISR : IsR w6 w6.heap.size ⟨⟨6, 0, 0, [], [], [], 0, (ty : Int), (r4 : Int), B⟩, none, 0, none, 0, none, 0, A7, c7⟩ := ⟨RT.nil _ _ _ _, R32.nil _ _ _ _, RN.nil _ _ _ _, hR7, Rep.In.of (i64_small (by omega)) (by omega) (by omega) (by omega) (i64_small (by omega)) (i64_small (by omega)) (by simp) (by simp) (by simp) (by omega)⟩
  clear hQ5 hb6 hpad ho6 hR7 hR5 hty
  obtain ⟨y0, y1, y2, y3, y4, y5, y6, y7, y8, y9⟩ := blk10 hQ.blk
  obtain ⟨q0, q1, q2, q3, q4, q5, q6, q7, q8, q9⟩ := blk10 hQ.res
  obtain ⟨f0, f1, f2, f3, f4, f5, f6, f7, f8, f9⟩ := frz10 hQ.res
  have HF := Lib.hid (hQ.final (x := ⟨⟨6, 0, 0, [], [], [], 0, (ty : Int), (r4 : Int), B⟩, none, 0, none, 0, none, 0, A7, c7⟩) HISR HOK.out (fun ad had => by
    rcases had with had | had | had | had
    · cases had
    · cases had
    · cases had
    · have := hlo ad had
      omega) rfl)
  clear hQ hlo HISR
  go_wp2_with fail
  obtain ⟨hout, hblk⟩ := HF.out
  have hset : ((((((((((w6.setCell ⟨w.heap.size, 0, none⟩ (.int .i64 6)).setCell ⟨w.heap.size, 1, none⟩ (.int .u32 0)).setCell ⟨w.heap.size, 2, none⟩ (.int .u32 0)).setCell ⟨w.heap.size, 3, none⟩ (.slice none 0 0)).setCell ⟨w.heap.size, 4, none⟩ (.slice none 0 0)).setCell ⟨w.heap.size, 5, none⟩ (.slice none 0 0)).setCell ⟨w.heap.size, 6, none⟩ (.int .u64 0)).setCell ⟨w.heap.size, 7, none⟩ (.int .i64 (ty : Int))).setCell ⟨w.heap.size, 8, none⟩ (.int .i64 (r4 : Int))).setCell ⟨w.heap.size, 9, none⟩ (.slice A7 B.length c7)) = set10 w6 w.heap.size (.int .i64 6) (.int .u32 0) (.int .u32 0) (.slice none 0 0) (.slice none 0 0) (.slice none 0 0) (.int .u64 0) (.int .i64 (ty : Int)) (.int .i64 (r4 : Int)) (.slice A7 B.length c7) := rfl
  rw [hset]
  clear hset HF y0 y1 y2 y3 y4 y5 y6 y7 y8 y9 q0 q1 q2 q3 q4 q5 q6 q7 q8 q9 f0 f1 f2 f3 f4 f5 f6 f7 f8 f9
  revert hout hblk
  generalize set10 w6 w.heap.size (.int .i64 6) (.int .u32 0) (.int .u32 0) (.slice none 0 0) (.slice none 0 0) (.slice none 0 0) (.int .u64 0) (.int .i64 (ty : Int)) (.int .i64 (r4 : Int)) (.slice A7 B.length c7) = WF
  intro hout hblk
  obtain ⟨z0, z1, z2, z3, z4, z5, z6, z7, z8, z9⟩ := blk10 hblk
  clear hblk
  refine bodyPost_ret (by simp [results, Try.results10, go_sem, z0, z1, z2, z3, z4, z5, z6, z7, z8, z9]; try rfl) rfl ?_
  exact hout
end Go.Proofs.Ytnchgmemajmkjaa
namespace Go.Proofs.Ytnchgmemajmkjaa
open Go.RowKit
set_option linter.unusedVariables false
set_option linter.unusedSimpArgs false
set_option maxRecDepth 20000

theorem tape_at6 {w : World} {A : Option Addr} {n c : Nat} (h : RI w w.heap.size A n c) (hn : n ≤ 281474976710656) : TapeAt (w.alloc (.cells #[.slice A n c, .int .i64 0] 26)) w.heap.size :=
  ⟨A, n, c, 0, Blk.new _ _ _, Nat.zero_le _, hn, h.keep ((Below.refl _ w).alloc (Nat.le_refl _) _)⟩
theorem RI.on6 {w w' : World} {A : Option Addr} {n c : Nat} (h : RI w w.heap.size A n c) (hb : Below w.heap.size w w') : RI w' w'.heap.size A n c :=
  ⟨h.1, fun hn => by
    obtain ⟨b, off, e, hlt, hc⟩ := (h.keep hb).2 hn
    exact ⟨b, off, e, Nat.lt_of_lt_of_le hlt hb.size, hc⟩⟩
theorem ones_len60 : ∀ (l : List Rep), (∀ r ∈ l, RepOk r) → (onesB l).length ≤ 60 * l.length
  | [], _ => by simp [onesB]
  | r :: l, h => by
    have ih := ones_len60 l fun x hx => h x (by simp [hx])
    have e : onesB (r :: l) = r.one ++ onesB l := rfl
    have := (h r (by simp)).small
    rw [e, List.length_append, List.length_cons]
    omega
theorem ok_errs {l : List Rep} (h0 : 0 < l.length) (h : ∀ r ∈ l, RepOk r) (h3 : l.length ≤ 3) : repsErr l = 0 := by
  unfold repsErr
  rw [if_neg (by omega)]
  have hf : l.find? (fun r => decide (r.err ≠ 0)) = none := List.find?_eq_none.2 fun r hr => by simp [(h r hr).err]
  have := ones_len60 l h
  rw [hf]
  simp only
  rw [if_neg (by omega)]
theorem reads_of {w : World} {B : Nat} {x : Rv} (hx : IsR w B x) (ok : RepOk x.r) : Reads x.r := reads_any ok.err hx.kinds hx.tups.2.1 hx.abouts.2.2.1
/-- Bytes of a report look like reports. -/
theorem isB_one {r : Rep} (h : r.err = 0) (s : List UInt8) : isB (r.one ++ s) = true := by
  obtain ⟨hk, hf, _⟩ := Rep.err_zero h
  have ht : 192 ≤ r.tc.1.toNat ∧ r.tc.1.toNat ≤ 223 := by
    unfold Rep.tc
    split
    · simp
    · split
      · simp
      · split
        · simp
        · split
          · simp
          · have h6 : r.kind = 6 := by omega
            unfold Rep.fits at hf
            rw [if_neg (by omega), if_neg (by omega), if_neg (by omega), if_pos h6] at hf
            simp only [Bool.and_eq_true, decide_eq_true_eq] at hf
            simp only
            omega
  unfold isB Rep.one
  generalize be (r.tail.length / 4) 2 ++ r.tail = T
  obtain ⟨t1, t2⟩ := ht
  generalize r.tc.1.toNat = t at t1 t2
  have e : (UInt8.ofNat t).toNat = t := by simp; omega
  simp [e]
  omega
end Go.Proofs.Ytnchgmemajmkjaa
