/- Contract: limelightref3.Read. -/
import Derived.Test.YtpcdmcaojgpfoaaRdOut
import Derived.Test.YtpcdmcaojgpfoaaCRefCut
import Derived.Test.YtpcdmcaojgpfoaaCR3Same
import Derived.Test.YtpcdmcaojgpfoaaAppG
import Derived.Test.YtpcdmcaojgpfoaaRegF
import Derived.Test.YtpcdmcaojgpfoaaCRFind
import Derived.StillTailTactics
namespace Go.Proofs.Ytpcdmcaojgpfoaa
open Go.RowKit
set_option linter.unusedVariables false
set_option linter.unusedSimpArgs false
set_option maxRecDepth 20000

theorem ref_gn (A : Option Addr) (n c : Nat) (l : List UInt8) (w : World) (h : R8 w w.heap.size A n c l) (hn : n ≤ 1500) (i k : Nat) (hk : 1 ≤ k) (hk8 : k ≤ 8) (hi : i + k ≤ n) (x y : Int) (hx : x = i) (hy : y = k) :
    Calls Try.prog 64 #[.slice A n c, .int .i64 x, .int .i64 y] w fun e w' => e = .returned (.int .u64 (gn l i k : Nat)) ∧ w' = w := by
  subst hx; subst hy
  refine (ref_num A n c l w h (by omega) i k (by unfold I64; omega)).mono ?_
  rintro e w' ⟨rfl, rfl⟩
  rw [getN_gn l i k hk hk8 (by have := h.1; omega)]
  exact ⟨rfl, rfl⟩
def pcsr (M : Bool) (T N2 N4 N8 : Nat) (u : Value) : Array Value := #[.bool M, .int .i64 (T : Int), .int .u16 (N2 : Int), .int .u32 (N4 : Int), .int .u32 (N8 : Int), u, .int .u16 0, .slice none 0 0, .slice none 0 0]
/-- While Csrc is read: the result's block still nought, the packet's block, its Csrc a row of its own. -/
structure RMem (w wr : World) (P : Nat) (M : Bool) (T N2 N4 N8 : Nat) (u : Value) (q : List Nat) : Prop where
  res : Blk wr w.heap.size 28 #[.bool false, .int .i64 0, .int .u16 0, .int .u32 0, .int .u32 0, .slice none 0 0, .int .u16 0, .slice none 0 0, .slice none 0 0]
  blk : Blk wr P 28 (pcsr M T N2 N4 N8 u)
  own : Own32 wr (P + 1) u q
  below : Below w.heap.size w wr
  ord : w.heap.size < P
section
variable {w wr w' : World} {P : Nat} {M : Bool} {T N2 N4 N8 : Nat} {u : Value} {q : List Nat}
theorem RMem.step (h : RMem w wr P M T N2 N4 N8 u q) (hb : Below wr.heap.size wr w') : RMem w w' P M T N2 N4 N8 u q :=
  ⟨h.res.below hb h.res.lt, h.blk.below hb h.blk.lt, World.ownsRow.kept (row := none) h.own ⟨hb.os, hb.tape, hb.output, hb.size, fun k hk _ => hb.block k hk⟩ (by cases hv : u.ownBlock <;> simp), h.below.trans (hb.mono h.below.size), h.ord⟩
/-- A word more. -/
theorem RMem.push (h : RMem w wr P M T N2 N4 N8 u q) {x : Nat} {v' : Value} (ha : AppG wr (P + 1) 24 1 u (q.length + 1) (q.map wv ++ [wv x]) v' w') : RMem w (w'.setCell ⟨P, 5, none⟩ v') P M T N2 N4 N8 v' (q ++ [x]) ∧ Blk w' P 28 (pcsr M T N2 N4 N8 u) := by
  have hord := h.ord
  have hPne : u.ownBlock ≠ some P := fun e => by have := (World.ownsRow.lt h.own _ e).1; omega
  have hRne : u.ownBlock ≠ some w.heap.size := fun e => by have := (World.ownsRow.lt h.own _ e).1; omega
  have hB : Blk w' P 28 (pcsr M T N2 N4 N8 u) := (ha.2.1.block _ h.blk.lt (fun e => hPne e.symm)).trans h.blk
  have hR : Blk w' w.heap.size 28 #[.bool false, .int .i64 0, .int .u16 0, .int .u32 0, .int .u32 0, .slice none 0 0, .int .u16 0, .slice none 0 0, .slice none 0 0] := (ha.2.1.block _ h.res.lt (fun e => hRne e.symm)).trans h.res
  have hvP : v'.ownBlock ≠ some P := fun e => by have := (World.ownsRow.lt ha.1 _ e).1; omega
  refine ⟨⟨hR.far (p := ⟨P, 5, none⟩) (show w.heap.size ≠ P by omega) _, ?_, ?_, ?_, hord⟩, hB⟩
  · have := hB.set_ 5 v'
    simpa [pcsr] using this
  · unfold Own32
    rw [List.length_append, List.map_append]
    exact ownsRow_setCell_other ha.1 (a := ⟨P, 5, none⟩) (fun e => hvP e) _
  · exact Below.setCell (ha.below h.below h.below.size h.own (by omega)) (p := ⟨P, 5, none⟩) (show w.heap.size ≤ P by omega) _
end
def rdF (w : World) (P : Nat) (M : Bool) (T N2 N4 N8 : Nat) (u : Value) (q : List Nat) : Frame where
  I := fun W => RMem w W P M T N2 N4 N8 u q
  Fr := fun a b => Below a.heap.size a b
  refl := fun w _ => Below.refl _ w
  trans := fun a b c h k => h.trans (k.mono h.size)
  drew := fun W h => ⟨h.step ⟨rfl, rfl, rfl, Nat.le_refl _, fun _ _ => rfl⟩, ⟨rfl, rfl, rfl, Nat.le_refl _, fun _ _ => rfl⟩⟩
/-- A new slice of this one word. -/
def oneR (w : World) (P : Nat) (M : Bool) (T N2 N4 N8 : Nat) (u : Value) (q : List Nat) (x : Nat) : ClF (rdF w P M T N2 N4 N8 u q) :=
  .pred (fun v W => ∃ b : Nat, v = .slice (some ⟨b, 0, none⟩) 1 1 ∧ b < W.heap.size ∧ W.cell? ⟨b, 0, none⟩ = some (wv x)) (fun v a b hI hf hb ⟨k, h2, h3, h4⟩ => ⟨k, h2, Nat.lt_of_lt_of_le h3 hf.size, (hf.cell (p := ⟨k, 0, none⟩) h3).trans h4⟩)
theorem oneR_of {w : World} {P : Nat} {M : Bool} {T N2 N4 N8 : Nat} {u : Value} {q : List Nat} {x : Nat} {c : ClF (rdF w P M T N2 N4 N8 u q)} {v : Value} {W : World} (h : c.holds v W) (e : c = oneR w P M T N2 N4 N8 u q x) :
    ∃ b : Nat, v = .slice (some ⟨b, 0, none⟩) 1 1 ∧ b < W.heap.size ∧ W.cell? ⟨b, 0, none⟩ = some (wv x) := by subst e; exact h
theorem csrcOf_succ (l : List UInt8) (q : Nat) : csrcOf l q ++ [gn l (12 + 4 * q) 4] = csrcOf l (q + 1) := by unfold csrcOf; rw [List.range_succ]; simp
/-- While the head is read: the result's block still nought. -/
def hdF (w : World) : Frame where
  I := fun W => Below w.heap.size w W ∧ Blk W w.heap.size 28 #[.bool false, .int .i64 0, .int .u16 0, .int .u32 0, .int .u32 0, .slice none 0 0, .int .u16 0, .slice none 0 0, .slice none 0 0]
  Fr := fun a b => Below a.heap.size a b
  refl := fun w _ => Below.refl _ w
  trans := fun a b c h k => h.trans (k.mono h.size)
  drew := fun W h => ⟨⟨h.1.drew, h.2.drew⟩, (Below.refl _ W).drew⟩
def newP (w : World) : ClF (hdF w) := .pred (fun v W => ∃ P : Nat, v = .pointer (some ⟨P, 0, none⟩) ∧ Blk W P 28 #[.bool false, .int .i64 0, .int .u16 0, .int .u32 0, .int .u32 0, .slice none 0 0, .int .u16 0, .slice none 0 0, .slice none 0 0] ∧ w.heap.size < P) (fun v a b hI hf hb ⟨P, h1, h2, h3⟩ => ⟨P, h1, h2.below hf h2.lt, h3⟩)
theorem newP_of {w : World} {c : ClF (hdF w)} {v : Value} {W : World} (h : c.holds v W) (e : c = newP w) : ∃ P : Nat, v = .pointer (some ⟨P, 0, none⟩) ∧ Blk W P 28 #[.bool false, .int .i64 0, .int .u16 0, .int .u32 0, .int .u32 0, .slice none 0 0, .int .u16 0, .slice none 0 0, .slice none 0 0] ∧ w.heap.size < P := by subst e; exact h
set_option maxRecDepth 100000 in
set_option maxHeartbeats 3000000 in
theorem ref_read (A : Option Addr) (n c : Nat) (l : List UInt8) (w : World) (h : R8 w w.heap.size A n c l) (hn0 : n ≤ 140737488355328) :
    Calls Try.prog 40 #[.slice A n c] w (ReadOut l w) := by
  have hl := h.1
  have hbt := bt_lt l 0
  have hR0 : Blk (w.alloc (.cells #[.bool false, .int .i64 0, .int .u16 0, .int .u32 0, .int .u32 0, .slice none 0 0, .int .u16 0, .slice none 0 0, .slice none 0 0] 28)) w.heap.size 28 #[.bool false, .int .i64 0, .int .u16 0, .int .u32 0, .int .u32 0, .slice none 0 0, .int .u16 0, .slice none 0 0, .slice none 0 0] := Blk.new _ _ _
  have b0 : Below w.heap.size w (w.alloc (.cells #[.bool false, .int .i64 0, .int .u16 0, .int .u32 0, .int .u32 0, .slice none 0 0, .int .u16 0, .slice none 0 0, .slice none 0 0] 28)) := (Below.refl _ w).alloc (Nat.le_refl _) _
  go_enter Try.func40, Try.ntmps40
  by_cases g1 : 1500 < n
  · have gg : (1500 : Int) < (n : Int) := by omega
    have he := Lib.hid (rerr_long (l := l) (by omega))
    clear h hR0 b0
    go_wp2_with fail
    refine bodyPost_ret (by simp [results, Try.results40, go_sem]; try rfl) rfl ?_
    exact ReadOut.no he.out (by decide) (by go_grown)
  have gg : ¬ (1500 : Int) < (n : Int) := by omega
  by_cases g2 : n = 0
  · have he := Lib.hid (rerr_none (l := l) (by omega))
    have gz : ((n : Int) == 0) = true := by simp; omega
    clear h hR0 b0
    go_wp2_with fail
    refine bodyPost_ret (by simp [results, Try.results40, go_sem]; try rfl) rfl ?_
    exact ReadOut.no he.out (by decide) (by go_grown)
  have gz : ((n : Int) == 0) = false := by simp; omega
  have g0 : (0 : Int) < (n : Int) := by omega
  have c0 : ∃ b off, A = some ⟨b, off, none⟩ ∧ b < w.heap.size ∧ w.cell? ⟨b, off, none⟩ = some (.int .u8 (bt l 0 : Int)) := by
    obtain ⟨b, off, e, hlt, hc⟩ := h.2.2 (by omega)
    exact ⟨b, off, e, hlt, by have := hc 0 (by omega); simpa [bt] using this⟩
  obtain ⟨b, off, rfl, hbl, c0⟩ := c0
  by_cases g3 : bt l 0 / 64 = 2
  rotate_left
  · have he := Lib.hid (rerr_version (l := l) (by omega) (by omega) g3)
    have gv : ((bt l 0 : Int) / 64 != 2) = true := by simp; omega
    clear h hR0 b0 g3
    go_wp2_with fail
    refine bodyPost_ret (by simp [results, Try.results40, go_sem]; try rfl) rfl ?_
    exact ReadOut.no he.out (by decide) (by go_grown)
  have gv : ((bt l 0 : Int) / 64 != 2) = false := by simp; omega
  have g3h := Lib.hid g3
  have hlh := Lib.hid hl
  have hnh := Lib.hid (show l.length ≠ 0 by omega)
  have hnn := Lib.hid (show l.length ≤ 1500 by omega)
  have a15 : bits BinOp.and .u8 (bt l 0 : Int) 15 = ((cN l : Nat) : Int) := and15 _ hbt
  have hcn : cN l < 16 := by unfold cN; omega
  have hE0 : hE l = 12 + 4 * cN l := rfl
  by_cases gE : n < 12 + 4 * cN l
  · have gl : (n : Int) < 12 + 4 * (cN l : Int) := by omega
    have hf : fit l = false := by
      unfold fit
      have : ¬ (pS l + padQ l ≤ l.length) := by unfold pS; split <;> omega
      rw [decide_eq_false this]
      simp
    have he := Lib.hid (rerr_fit (l := l) hnn.out hnh.out g3 hf)
    clear h hR0 b0 g3 hf hE0 hl
    go_wp2_with fail
    refine bodyPost_ret (by simp [results, Try.results40, go_sem]; try rfl) rfl ?_
    exact ReadOut.no he.out (by decide) (by go_grown)
  have gl : ¬ (n : Int) < 12 + 4 * (cN l : Int) := by omega
  clear g3 hl hE0
  have hbt1 := bt_lt l 1
  have q1 := gn_lt l 2 2
  have q2 := gn_lt l 4 4
  have q3 := gn_lt l 8 4
  have n12 : 12 ≤ n := by omega
  have c1 : w.cell? ⟨b, off + 1, none⟩ = some (.int .u8 (bt l 1 : Int)) := by
    obtain ⟨b', off', e, _, hc⟩ := h.2.2 (by omega)
    cases e
    exact hc 1 (by omega)
  obtain ⟨T, hT⟩ : ∃ T, bt l 1 % 128 = T := ⟨_, rfl⟩
  have e2 : bits BinOp.and .u8 (bt l 1 : Int) 127 = (T : Int) := by rw [and127 _ hbt1, hT]
  have hMM : decide (bt l 1 / 128 = 1) = ((bt l 1 : Int) / 128 == 1) := by
    by_cases h1 : bt l 1 / 128 = 1
    · have : (bt l 1 : Int) / 128 = 1 := by omega
      rw [this]; simp [h1]
    · have : ¬ (bt l 1 : Int) / 128 = 1 := by omega
      simp [h1, this]
  obtain ⟨M, hM⟩ : ∃ M, ((bt l 1 : Int) / 128 == 1) = M := ⟨_, rfl⟩
  rw [hM] at hMM
  have n1 := fun W (hr : R8 W W.heap.size (some ⟨b, off, none⟩) n c l) => ref_gn _ n c l W hr (by omega) 2 2 (by omega) (by omega) (by omega) 2 2 rfl rfl
  have n2 := fun W (hr : R8 W W.heap.size (some ⟨b, off, none⟩) n c l) => ref_gn _ n c l W hr (by omega) 4 4 (by omega) (by omega) (by omega) 4 4 rfl rfl
  have n3 := fun W (hr : R8 W W.heap.size (some ⟨b, off, none⟩) n c l) => ref_gn _ n c l W hr (by omega) 8 4 (by omega) (by omega) (by omega) 8 4 rfl rfl
  obtain ⟨N2, hN2⟩ : ∃ N2, gn l 2 2 = N2 := ⟨_, rfl⟩
  obtain ⟨N4, hN4⟩ : ∃ N4, gn l 4 4 = N4 := ⟨_, rfl⟩
  obtain ⟨N8, hN8⟩ : ∃ N8, gn l 8 4 = N8 := ⟨_, rfl⟩
  rw [hN2] at n1 q1
  rw [hN4] at n2 q2
  rw [hN8] at n3 q3
  have hT9 : T < 128 := by omega
  have u0 : IntKind.i64.wrap (T : Int) = T := by rw [IntKind.wrap_i64]; omega
  have u1 : IntKind.u16.wrap (N2 : Int) = N2 := by show (N2 : Int) % 65536 = N2; omega
  have u2 : IntKind.u32.wrap (N4 : Int) = N4 := by show (N4 : Int) % 4294967296 = N4; omega
  have u3 : IntKind.u32.wrap (N8 : Int) = N8 := by show (N8 : Int) % 4294967296 = N8; omega
  have hTh := Lib.hid hT
  have hMh := Lib.hid hMM
  have hN2h := Lib.hid hN2
  have hN4h := Lib.hid hN4
  have hN8h := Lib.hid hN8
  clear hT hN2 hN4 hN8 hMM
  go_upto_region 10 with (fail)
  revert hR0 b0
  generalize w.alloc (.cells #[.bool false, .int .i64 0, .int .u16 0, .int .u32 0, .int .u32 0, .slice none 0 0, .int .u16 0, .slice none 0 0, .slice none 0 0] 28) = W0
  intro hR0 b0
  have g1n : (1 : Int) < (n : Int) := by omega
  have hI0 : (hdF w).I W0 := ⟨b0, hR0⟩
  refine wp_region_ft (F := hdF w) 21
    [.val (.slice (some ⟨b, off, none⟩) n c), .val (.pointer (some ⟨b, off + 1, none⟩)), .val (.int .u8 (bt l 1 : Int)), .val (.int .u8 ((bt l 1 : Int) / 128)), .val (.bool M), .val (.slice (some ⟨b, off, none⟩) n c), .val (.pointer (some ⟨b, off + 1, none⟩)), .val (.int .u8 (bt l 1 : Int)), .val (.int .u8 (T : Int)), .val (.int .i64 (T : Int)), .val (.slice (some ⟨b, off, none⟩) n c), .val (.int .u64 (N2 : Int)), .val (.int .u16 (N2 : Int)), .val (.slice (some ⟨b, off, none⟩) n c), .val (.int .u64 (N4 : Int)), .val (.int .u32 (N4 : Int)), .val (.slice (some ⟨b, off, none⟩) n c), .val (.int .u64 (N8 : Int)), .val (.int .u32 (N8 : Int)), .val (.agg #[.bool M, .int .i64 (T : Int), .int .u16 (N2 : Int), .int .u32 (N4 : Int), .int .u32 (N8 : Int), .slice none 0 0, .int .u16 0, .slice none 0 0, .slice none 0 0]), newP w]
    (by kernel_rfl) (by kernel_rfl) (by kernel_rfl) (by decide) (by kernel_rfl) hI0 (AllOblF.upto ⟨?_, ?_, ?_, ?_, ?_, ?_, ?_, ?_, ?_, ?_, ?_, ?_, ?_, ?_, ?_, ?_, ?_, ?_, ?_, ?_, ?_, trivial⟩) ?_
  · exact OblF.move rfl _ (Or.inl rfl) (by kernel_rfl) rfl
  · refine OblF.pure rfl (.pointer (some ⟨b, off + 1, none⟩)) (by kernel_rfl) rfl fun ev W hI hf hx => ?_
    have e38 : ev (.tmp 38) = .slice (some ⟨b, off, none⟩) n c := holds_valF (hx (.tmp 38)) (by kernel_rfl)
    have k0 : ev (.const (.int .i64 1)) = .int .i64 1 := holds_valF (hx (.const (.int .i64 1))) (by kernel_rfl)
    simp [execOp, e38, k0,  go_sem, g1n]
  · refine OblF.pure rfl (.int .u8 (bt l 1 : Int)) (by kernel_rfl) rfl fun ev W hI hf hx => ?_
    have e39 : ev (.tmp 39) = .pointer (some ⟨b, off + 1, none⟩) := holds_valF (hx (.tmp 39)) (by kernel_rfl)
    have m1 := (hI.1.cell (p := ⟨b, off + 1, none⟩) hbl).trans c1
    simp [execOp, e39,  go_sem, m1]
  · refine OblF.pure rfl (.int .u8 ((bt l 1 : Int) / 128)) (by kernel_rfl) rfl fun ev W hI hf hx => ?_
    have e40 : ev (.tmp 40) = .int .u8 (bt l 1 : Int) := holds_valF (hx (.tmp 40)) (by kernel_rfl)
    have k0 : ev (.const (.int .u64 7)) = .int .u64 7 := holds_valF (hx (.const (.int .u64 7))) (by kernel_rfl)
    simp [execOp, e40, k0,  go_sem]
  · refine OblF.pure rfl (.bool M) (by kernel_rfl) rfl fun ev W hI hf hx => ?_
    have e41 : ev (.tmp 41) = .int .u8 ((bt l 1 : Int) / 128) := holds_valF (hx (.tmp 41)) (by kernel_rfl)
    have k0 : ev (.const (.int .u8 1)) = .int .u8 1 := holds_valF (hx (.const (.int .u8 1))) (by kernel_rfl)
    simp [execOp, e41, k0,  go_sem, hM]
  · exact OblF.move rfl _ (Or.inl rfl) (by kernel_rfl) rfl
  · refine OblF.pure rfl (.pointer (some ⟨b, off + 1, none⟩)) (by kernel_rfl) rfl fun ev W hI hf hx => ?_
    have e43 : ev (.tmp 43) = .slice (some ⟨b, off, none⟩) n c := holds_valF (hx (.tmp 43)) (by kernel_rfl)
    have k0 : ev (.const (.int .i64 1)) = .int .i64 1 := holds_valF (hx (.const (.int .i64 1))) (by kernel_rfl)
    simp [execOp, e43, k0,  go_sem, g1n]
  · refine OblF.pure rfl (.int .u8 (bt l 1 : Int)) (by kernel_rfl) rfl fun ev W hI hf hx => ?_
    have e44 : ev (.tmp 44) = .pointer (some ⟨b, off + 1, none⟩) := holds_valF (hx (.tmp 44)) (by kernel_rfl)
    have m1 := (hI.1.cell (p := ⟨b, off + 1, none⟩) hbl).trans c1
    simp [execOp, e44,  go_sem, m1]
  · refine OblF.pure rfl (.int .u8 (T : Int)) (by kernel_rfl) rfl fun ev W hI hf hx => ?_
    have e45 : ev (.tmp 45) = .int .u8 (bt l 1 : Int) := holds_valF (hx (.tmp 45)) (by kernel_rfl)
    have k0 : ev (.const (.int .u8 127)) = .int .u8 127 := holds_valF (hx (.const (.int .u8 127))) (by kernel_rfl)
    simp [execOp, e45, k0,  go_sem, e2]
  · refine OblF.pure rfl (.int .i64 (T : Int)) (by kernel_rfl) rfl fun ev W hI hf hx => ?_
    have e46 : ev (.tmp 46) = .int .u8 (T : Int) := holds_valF (hx (.tmp 46)) (by kernel_rfl)
    simp [execOp, e46,  go_sem, u0]
  · exact OblF.move rfl _ (Or.inl rfl) (by kernel_rfl) rfl
  · refine OblF.call rfl 64 #[.tmp 48, .const (.int .i64 2), .const (.int .i64 2)] _ rfl Try.f64 Try.func64 (by kernel_rfl) (by kernel_rfl) rfl fun ev W hI hf hx => ?_
    have e3 : ev (.tmp 48) = .slice (some ⟨b, off, none⟩) n c := holds_valF (hx (.tmp 48)) (by kernel_rfl)
    have k0 : ev (.const (.int .i64 2)) = .int .i64 2 := holds_valF (hx (.const (.int .i64 2))) (by kernel_rfl)
    have k1 : ev (.const (.int .i64 2)) = .int .i64 2 := holds_valF (hx (.const (.int .i64 2))) (by kernel_rfl)
    simp only [List.map_toArray, List.map_cons, List.map_nil, e3, k0, k1]
    refine (n1 W (h.on hI.1)).mono ?_
    rintro e W' ⟨rfl, hw'⟩
    obtain rfl := hw'.symm
    exact ⟨_, rfl, hI, Below.refl _ _, rfl⟩
  · refine OblF.pure rfl (.int .u16 (N2 : Int)) (by kernel_rfl) rfl fun ev W hI hf hx => ?_
    have e49 : ev (.tmp 49) = .int .u64 (N2 : Int) := holds_valF (hx (.tmp 49)) (by kernel_rfl)
    simp [execOp, e49,  go_sem, u1]
  · exact OblF.move rfl _ (Or.inl rfl) (by kernel_rfl) rfl
  · refine OblF.call rfl 64 #[.tmp 51, .const (.int .i64 4), .const (.int .i64 4)] _ rfl Try.f64 Try.func64 (by kernel_rfl) (by kernel_rfl) rfl fun ev W hI hf hx => ?_
    have e3 : ev (.tmp 51) = .slice (some ⟨b, off, none⟩) n c := holds_valF (hx (.tmp 51)) (by kernel_rfl)
    have k0 : ev (.const (.int .i64 4)) = .int .i64 4 := holds_valF (hx (.const (.int .i64 4))) (by kernel_rfl)
    have k1 : ev (.const (.int .i64 4)) = .int .i64 4 := holds_valF (hx (.const (.int .i64 4))) (by kernel_rfl)
    simp only [List.map_toArray, List.map_cons, List.map_nil, e3, k0, k1]
    refine (n2 W (h.on hI.1)).mono ?_
    rintro e W' ⟨rfl, hw'⟩
    obtain rfl := hw'.symm
    exact ⟨_, rfl, hI, Below.refl _ _, rfl⟩
  · refine OblF.pure rfl (.int .u32 (N4 : Int)) (by kernel_rfl) rfl fun ev W hI hf hx => ?_
    have e52 : ev (.tmp 52) = .int .u64 (N4 : Int) := holds_valF (hx (.tmp 52)) (by kernel_rfl)
    simp [execOp, e52,  go_sem, u2]
  · exact OblF.move rfl _ (Or.inl rfl) (by kernel_rfl) rfl
  · refine OblF.call rfl 64 #[.tmp 54, .const (.int .i64 8), .const (.int .i64 4)] _ rfl Try.f64 Try.func64 (by kernel_rfl) (by kernel_rfl) rfl fun ev W hI hf hx => ?_
    have e3 : ev (.tmp 54) = .slice (some ⟨b, off, none⟩) n c := holds_valF (hx (.tmp 54)) (by kernel_rfl)
    have k0 : ev (.const (.int .i64 8)) = .int .i64 8 := holds_valF (hx (.const (.int .i64 8))) (by kernel_rfl)
    have k1 : ev (.const (.int .i64 4)) = .int .i64 4 := holds_valF (hx (.const (.int .i64 4))) (by kernel_rfl)
    simp only [List.map_toArray, List.map_cons, List.map_nil, e3, k0, k1]
    refine (n3 W (h.on hI.1)).mono ?_
    rintro e W' ⟨rfl, hw'⟩
    obtain rfl := hw'.symm
    exact ⟨_, rfl, hI, Below.refl _ _, rfl⟩
  · refine OblF.pure rfl (.int .u32 (N8 : Int)) (by kernel_rfl) rfl fun ev W hI hf hx => ?_
    have e55 : ev (.tmp 55) = .int .u64 (N8 : Int) := holds_valF (hx (.tmp 55)) (by kernel_rfl)
    simp [execOp, e55,  go_sem, u3]
  · refine OblF.pure rfl (.agg #[.bool M, .int .i64 (T : Int), .int .u16 (N2 : Int), .int .u32 (N4 : Int), .int .u32 (N8 : Int), .slice none 0 0, .int .u16 0, .slice none 0 0, .slice none 0 0]) (by kernel_rfl) rfl fun ev W hI hf hx => ?_
    have e42 : ev (.tmp 42) = .bool M := holds_valF (hx (.tmp 42)) (by kernel_rfl)
    have e47 : ev (.tmp 47) = .int .i64 (T : Int) := holds_valF (hx (.tmp 47)) (by kernel_rfl)
    have e50 : ev (.tmp 50) = .int .u16 (N2 : Int) := holds_valF (hx (.tmp 50)) (by kernel_rfl)
    have e53 : ev (.tmp 53) = .int .u32 (N4 : Int) := holds_valF (hx (.tmp 53)) (by kernel_rfl)
    have e56 : ev (.tmp 56) = .int .u32 (N8 : Int) := holds_valF (hx (.tmp 56)) (by kernel_rfl)
    simp [execOp, e42, e47, e50, e53, e56,  go_sem]
  · refine OblF.step rfl fun ev W hI hf hx => ?_
    refine ⟨.pointer (some ⟨W.heap.size, 0, none⟩), W.alloc (.cells #[.bool false, .int .i64 0, .int .u16 0, .int .u32 0, .int .u32 0, .slice none 0 0, .int .u16 0, .slice none 0 0, .slice none 0 0] 28), ?_, ?_, ?_, ?_⟩
    · simp [execOp, go_sem]
    · exact ⟨hI.1.alloc hI.1.size _, hI.2.alloc _⟩
    · exact (Below.refl _ W).alloc (Nat.le_refl _) _
    · exact ⟨W.heap.size, rfl, Blk.new W 28 #[.bool false, .int .i64 0, .int .u16 0, .int .u32 0, .int .u32 0, .slice none 0 0, .int .u16 0, .slice none 0 0, .slice none 0 0], hI.2.lt⟩
  intro a W hI hf hsz hdf hold hv
  obtain ⟨P, v5, hPZ, hPg⟩ := newP_of (hv 20 (by decide)) (by kernel_rfl)
  have v5' : a.tmps.getD 5 undef = .pointer (some ⟨P, 0, none⟩) := v5
  have v57 : a.tmps.getD 57 undef = .agg #[.bool M, .int .i64 (T : Int), .int .u16 (N2 : Int), .int .u32 (N4 : Int), .int .u32 (N8 : Int), .slice none 0 0, .int .u16 0, .slice none 0 0, .slice none 0 0] := holds_valF (hv 19 (by decide)) (by kernel_rfl)
  have ha := act_puts [38, 39, 40, 41, 42, 43, 44, 45, 46, 47, 48, 49, 50, 51, 52, 53, 54, 55, 56, 57, 5] (by kernel_rfl) hsz hdf hold
  simp only [putAll, v5', v57] at ha
  generalize a.tmps.getD 38 undef = x38 at ha
  generalize a.tmps.getD 39 undef = x39 at ha
  generalize a.tmps.getD 40 undef = x40 at ha
  generalize a.tmps.getD 41 undef = x41 at ha
  generalize a.tmps.getD 42 undef = x42 at ha
  generalize a.tmps.getD 43 undef = x43 at ha
  generalize a.tmps.getD 44 undef = x44 at ha
  generalize a.tmps.getD 45 undef = x45 at ha
  generalize a.tmps.getD 46 undef = x46 at ha
  generalize a.tmps.getD 47 undef = x47 at ha
  generalize a.tmps.getD 48 undef = x48 at ha
  generalize a.tmps.getD 49 undef = x49 at ha
  generalize a.tmps.getD 50 undef = x50 at ha
  generalize a.tmps.getD 51 undef = x51 at ha
  generalize a.tmps.getD 52 undef = x52 at ha
  generalize a.tmps.getD 53 undef = x53 at ha
  generalize a.tmps.getD 54 undef = x54 at ha
  generalize a.tmps.getD 55 undef = x55 at ha
  generalize a.tmps.getD 56 undef = x56 at ha
  clear v5 v5' v57 hv hold hsz hdf hf
  subst ha
  simp only [List.toList_toArray, List.drop_succ_cons, List.drop_zero, Act.put, List.setIfInBounds_toArray, List.set_cons_succ, List.set_cons_zero]
  obtain ⟨bW, zW⟩ := hI
  clear n1 n2 n3 e2 hM u0 u1 u2 u3 c1 hI0 hR0 b0 g1n q1 q2 q3 hbt1
  obtain ⟨k0, k1, k2, k3, k4, k5, k6, k7, k8⟩ := blk9 hPZ
  have z0 := hPZ.frozen 0
  have z1 := hPZ.frozen 1
  have z2 := hPZ.frozen 2
  have z3 := hPZ.frozen 3
  have z4 := hPZ.frozen 4
  have z5 := hPZ.frozen 5
  have z6 := hPZ.frozen 6
  have z7 := hPZ.frozen 7
  have z8 := hPZ.frozen 8
  go_upto_region 11 with (fail)
  have hP1 := set9_blk (v0 := .bool M) (v1 := .int .i64 (T : Int)) (v2 := .int .u16 (N2 : Int)) (v3 := .int .u32 (N4 : Int)) (v4 := .int .u32 (N8 : Int)) (v5 := .slice none 0 0) (v6 := .int .u16 0) (v7 := .slice none 0 0) (v8 := .slice none 0 0) hPZ
  have bS : Below w.heap.size W (set9 W P (.bool M) (.int .i64 (T : Int)) (.int .u16 (N2 : Int)) (.int .u32 (N4 : Int)) (.int .u32 (N8 : Int)) (.slice none 0 0) (.int .u16 0) (.slice none 0 0) (.slice none 0 0)) := set9_below (Nat.le_of_lt hPg)
  have zR : Blk (set9 W P (.bool M) (.int .i64 (T : Int)) (.int .u16 (N2 : Int)) (.int .u32 (N4 : Int)) (.int .u32 (N8 : Int)) (.slice none 0 0) (.int .u16 0) (.slice none 0 0) (.slice none 0 0)) w.heap.size 28 #[.bool false, .int .i64 0, .int .u16 0, .int .u32 0, .int .u32 0, .slice none 0 0, .int .u16 0, .slice none 0 0, .slice none 0 0] := (set9_far (W := W) (R := P) w.heap.size (by omega)).trans zW
  have bW1 := bW.trans bS
  change Code.wp _ _ _ _ (set9 W P (.bool M) (.int .i64 (T : Int)) (.int .u16 (N2 : Int)) (.int .u32 (N4 : Int)) (.int .u32 (N8 : Int)) (.slice none 0 0) (.int .u16 0) (.slice none 0 0) (.slice none 0 0))
  generalize set9 W P (.bool M) (.int .i64 (T : Int)) (.int .u16 (N2 : Int)) (.int .u32 (N4 : Int)) (.int .u32 (N8 : Int)) (.slice none 0 0) (.int .u16 0) (.slice none 0 0) (.slice none 0 0) = W1 at hP1 zR bW1 ⊢
  clear bS bW zW k0 k1 k2 k3 k4 k5 k6 k7 k8 z0 z1 z2 z3 z4 z5 z6 z7 z8 hPZ
  have hM1 : RMem w W1 P M T N2 N4 N8 (.slice none 0 0) [] := ⟨zR, hP1, Own32.nil _ _, bW1, hPg⟩
  clear zR hP1 bW1
  go_wp2_with fail
  go_loopw [6] (fun i wr => ∃ (q : Nat) (u : Value), q ≤ cN l ∧ i = .int .i64 (12 + 4 * (q : Int)) ∧ RMem w wr P M T N2 N4 N8 u (csrcOf l q)) (fun i _ => 12 + 4 * cN l - (intOf i).toNat)
  case atStart => exact ⟨0, _, by omega, rfl, hM1⟩
  case round =>
    obtain ⟨q, u, hq, rfl, hMr⟩ := hrel
    have hw32 := rd_words l q
    obtain ⟨Au, cu, rfl, r1⟩ := hMr.own.r32 hw32
    by_cases hlt : q < cN l
    · have g : 12 + 4 * (q : Int) < 12 + 4 * (cN l : Int) := by omega
      have hX : ∃ X, gn l (12 + 4 * q) 4 = X := ⟨_, rfl⟩
      obtain ⟨X, hX⟩ := hX
      have hX9 : X < 4294967296 := by have := gn_lt l (12 + 4 * q) 4; rw [hX] at this; simpa using this
      have n4 := fun W (hr : R8 W W.heap.size (some ⟨b, off, none⟩) n c l) => ref_gn _ n c l W hr (by omega) (12 + 4 * q) 4 (by omega) (by omega) (by omega) (12 + 4 * (q : Int)) 4 (by omega) rfl
      rw [hX] at n4
      have hXs := Lib.hid (csrcOf_succ l q)
      rw [hX] at hXs
      have hXl := csrcOf_len l q
      obtain ⟨Lq, hLq⟩ : ∃ Lq, csrcOf l q = Lq := ⟨_, rfl⟩
      rw [hLq] at hMr hXs hXl r1 hw32
      clear hX hLq
      have u3 : IntKind.u32.wrap (X : Int) = X := by show (X : Int) % 4294967296 = X; omega
      go_upto_region 14 with (fail)
      refine wp_region_ft (F := rdF w P M T N2 N4 N8 (.slice Au Lq.length cu) Lq) 7
        [.val (.pointer (some ⟨P, 5, none⟩)), .val (.slice Au Lq.length cu), .val (.slice (some ⟨b, off, none⟩) n c), .val (.int .i64 (12 + 4 * (q : Int))), .val (.int .u64 (X : Int)), .val (.int .u32 (X : Int)), oneR w P M T N2 N4 N8 (.slice Au Lq.length cu) Lq X]
        (by kernel_rfl) (by kernel_rfl) (by kernel_rfl) (by decide) (by kernel_rfl) hMr (AllOblF.upto ⟨?_, ?_, ?_, ?_, ?_, ?_, ?_, trivial⟩) ?_
      · refine OblF.pure rfl (.pointer (some ⟨P, 5, none⟩)) (by kernel_rfl) rfl fun ev W hI hf hx => ?_
        have e3 : ev (.tmp 5) = .pointer (some ⟨P, 0, none⟩) := holds_valF (hx (.tmp 5)) (by kernel_rfl)
        simp [execOp, e3, go_sem]
      · refine OblF.pure rfl (.slice Au Lq.length cu) (by kernel_rfl) rfl fun ev W hI hf hx => ?_
        have e3 : ev (.tmp 63) = .pointer (some ⟨P, 5, none⟩) := holds_valF (hx (.tmp 63)) (by kernel_rfl)
        have c5 : W.cell? ⟨P, 5, none⟩ = some (.slice Au Lq.length cu) := RMem.blk hI |>.cell 5
        simp [execOp, e3, go_sem, c5]
      · exact OblF.move rfl _ (Or.inl rfl) (by kernel_rfl) rfl
      · exact OblF.move rfl _ (Or.inl rfl) (by kernel_rfl) rfl
      · refine OblF.call rfl 64 #[.tmp 65, .tmp 66, .const (.int .i64 4)] _ rfl Try.f64 Try.func64 (by kernel_rfl) (by kernel_rfl) rfl fun ev W hI hf hx => ?_
        have e3 : ev (.tmp 65) = .slice (some ⟨b, off, none⟩) n c := holds_valF (hx (.tmp 65)) (by kernel_rfl)
        have e4 : ev (.tmp 66) = .int .i64 (12 + 4 * (q : Int)) := holds_valF (hx (.tmp 66)) (by kernel_rfl)
        have k0 : ev (.const (.int .i64 4)) = .int .i64 4 := holds_valF (hx (.const (.int .i64 4))) (by kernel_rfl)
        simp only [List.map_toArray, List.map_cons, List.map_nil, e3, e4, k0]
        refine (n4 W (h.on (RMem.below hI))).mono ?_
        rintro e W' ⟨rfl, hw'⟩
        obtain rfl := hw'.symm
        exact ⟨_, rfl, hI, Below.refl _ _, rfl⟩
      · refine OblF.pure rfl (.int .u32 (X : Int)) (by kernel_rfl) rfl fun ev W hI hf hx => ?_
        have e3 : ev (.tmp 67) = .int .u64 (X : Int) := holds_valF (hx (.tmp 67)) (by kernel_rfl)
        simp [execOp, e3, go_sem, u3]
      · refine OblF.step rfl fun ev W hI hf hx => ?_
        have e3 : ev (.tmp 68) = .int .u32 (X : Int) := holds_valF (hx (.tmp 68)) (by kernel_rfl)
        refine ⟨.slice (some ⟨W.heap.size, 0, none⟩) 1 1, W.alloc (.cells #[wv X] 24), ?_, ?_, ?_, ?_⟩
        · simp [execOp, e3, go_sem, wv]
        · exact RMem.step hI ((Below.refl _ W).alloc (Nat.le_refl _) _)
        · exact (Below.refl _ W).alloc (Nat.le_refl _) _
        · exact ⟨W.heap.size, rfl, by simp, (Blk.new W 24 #[wv X]).cell 0⟩
      intro a W hI hf hsz hdf hold hv
      have v64 : a.tmps.getD 64 undef = .slice Au Lq.length cu := holds_valF (hv 1 (by decide)) (by kernel_rfl)
      obtain ⟨bx, v69, hbx, hcell⟩ : ∃ b : Nat, a.tmps.getD 69 undef = .slice (some ⟨b, 0, none⟩) 1 1 ∧ b < W.heap.size ∧ W.cell? ⟨b, 0, none⟩ = some (wv X) := oneR_of (x := X) (u := .slice Au Lq.length cu) (q := Lq) (hv 6 (by decide)) (by kernel_rfl)
      have v69' : a.tmps.getD 69 undef = .slice (some ⟨bx, 0, none⟩) 1 1 := v69
      have ha := act_puts [63, 64, 65, 66, 67, 68, 69, 70, 71] (by kernel_rfl) hsz hdf hold
      simp only [putAll, v64, v69'] at ha
      generalize a.tmps.getD 63 undef = x63 at ha
      generalize a.tmps.getD 65 undef = x65 at ha
      generalize a.tmps.getD 66 undef = x66 at ha
      generalize a.tmps.getD 67 undef = x67 at ha
      generalize a.tmps.getD 68 undef = x68 at ha
      generalize a.tmps.getD 70 undef = x70 at ha
      generalize a.tmps.getD 71 undef = x71 at ha
      clear v64 v69 v69' hv hold hsz hdf hf n4 u3
      subst ha
      simp only [List.toList_toArray, List.drop_succ_cons, List.drop_zero, Act.put, List.setIfInBounds_toArray, List.set_cons_succ, List.set_cons_zero]
      have hM9 : RMem w W P M T N2 N4 N8 (.slice Au Lq.length cu) Lq := hI
      clear hI hMr r1
      have hone : ∀ j u, [wv X][j]? = some u → W.cell? ((⟨bx, 0, none⟩ : Addr).add j) = some u := fun j u hj => by
        match j, hj with
        | 0, hj =>
          simp at hj
          subst hj
          simpa [Addr.add] using hcell
      have hwx : ∀ y ∈ Lq ++ [X], y < 4294967296 := fun y hy => by
        rcases List.mem_append.1 hy with hy | hy
        · exact hw32 y hy
        · rw [List.mem_singleton.1 hy]
          exact hX9
      have hPs : P + 1 ≤ W.heap.size := hM9.blk.lt
      go_wp2_with (at_builtin; ((with_reducible refine wpList_appendG rfl (.tmp 64) (.tmp 69) 25 25 24 rfl rfl _ 1 4 Try.underlying25 u32_info rfl (by decide) (P + 1) (.slice Au Lq.length cu) Lq.length (Lq.map wv) (by with_unfolding_all rfl) (by with_unfolding_all exact hM9.own) (⟨bx, 0, none⟩) 1 1 [wv X] (by with_unfolding_all rfl) rfl hone (one_word_cell X) (by simp only [maxLen]; omega) (by omega) hPs ?_); intro v9 w9 ha9; have hpu := hM9.push ha9; have d5 : w9.cell? ⟨P, 5, none⟩ = some (.slice Au Lq.length cu) := hpu.2.cell 5; have f5 : w9.frozen? ⟨P, 5, none⟩ = false := hpu.2.frozen 5; obtain ⟨A9, c9, rfl, _⟩ := hpu.1.own.r32 hwx))
      have hpu1 := hpu.1
      rw [hXs.out, csrcOf_len] at hpu1
      try rw [hXs.out]
      clear hpu ha9 d5 f5
      go_roundw
      case rel => exact ⟨q + 1, _, by omega, by first | rfl | (congr 1; omega) | (congr 1; unfold wrap64; omega), hpu1⟩
      case measure => simp [intOf]; omega
    · have g : ¬ 12 + 4 * (q : Int) < 12 + 4 * (cN l : Int) := by omega
      have hqe : q = cN l := by omega
      subst hqe
      have hfar := own_block hMr.own
      rw [csrcOf_len] at r1 hMr
      have hR7 := hMr.res
      have hP7 : Blk _ P 28 #[.bool M, .int .i64 (T : Int), .int .u16 (N2 : Int), .int .u32 (N4 : Int), .int .u32 (N8 : Int), .slice Au (cN l) cu, .int .u16 0, .slice none 0 0, .slice none 0 0] := hMr.blk
      have b07 := hMr.below
      have hPl7 := hP7.lt
      clear hM1 g hlt hw32 hq hMr
      rename_i wr
      have hE0 : hE l = 12 + 4 * cN l := rfl
      have c0 : wr.cell? ⟨b, off, none⟩ = some (.int .u8 (bt l 0 : Int)) := (b07.cell (p := ⟨b, off, none⟩) hbl).trans c0
      have hX4 : pS l ≤ l.length → isX l = true → hE l + 4 ≤ l.length := by intro h1 h2; unfold pS at h1; rw [h2, if_pos rfl] at h1; omega
      have c00 := Lib.hid c0
      go_upto_if 76 with (fail)
      go_cut [4] from 72 to 104 (fun s4 wc => ∃ (W9 : World) (N6 : Nat) (A2 : Option Addr) (n2 c2 : Nat) (L2 : List UInt8), W9 = wc ∧ s4 = .int .i64 (pS l : Nat) ∧ pS l ≤ l.length ∧ 12 ≤ pS l ∧ Blk W9 w.heap.size 28 #[.bool false, .int .i64 0, .int .u16 0, .int .u32 0, .int .u32 0, .slice none 0 0, .int .u16 0, .slice none 0 0, .slice none 0 0] ∧ Blk W9 P 28 #[.bool M, .int .i64 (T : Int), .int .u16 (N2 : Int), .int .u32 (N4 : Int), .int .u32 (N8 : Int), .slice Au (cN l) cu, .int .u16 (N6 : Int), .slice A2 n2 c2, .slice none 0 0] ∧ Below w.heap.size w W9 ∧ R32 W9 W9.heap.size Au (cN l) cu (csrcOf l (cN l)) ∧ R8 W9 W9.heap.size A2 n2 c2 L2 ∧ (if isX l = true then gn l (hE l) 2 else 0) = N6 ∧ (if isX l = true then (l.drop (hE l + 4)).take (4 * wN l) else []) = L2)
      case first =>
        by_cases hx : isX l = true
        rotate_left
        · have a16 : (bits BinOp.and .u8 (bt l 0 : Int) 16 != 0) = false := by rw [and16 _ hbt]; unfold isX at hx; rw [decide_eq_true_eq] at hx; rw [show bt l 0 / 16 % 2 = 0 by omega]; rfl
          have hxh := Lib.hid (show isX l = false by simpa using hx)
          have hpS : pS l = 12 + 4 * cN l := by unfold pS; rw [hxh.out, if_neg (by simp), hE0]
          have hpSh := Lib.hid hpS
          clear hx hpS hE0
          go_wp2_with fail
          go_meet
          case rel => exact ⟨_, 0, none, 0, 0, [], rfl, by first | rfl | (congr 1; have := hpSh.out; omega), by have := hpSh.out; have := hlh.out; omega, by have := hpSh.out; omega, hR7, hP7, b07, r1, R8.nil _ _ _ _, by rw [hxh.out]; rfl, by rw [hxh.out]; rfl⟩
        · have a16 : (bits BinOp.and .u8 (bt l 0 : Int) 16 != 0) = true := by rw [and16 _ hbt]; unfold isX at hx; rw [decide_eq_true_eq] at hx; rw [hx]; rfl
          have hxh := Lib.hid hx
          have hwn : wN l < 65536 := by have := gn_lt l (hE l + 2) 2; simpa [wN] using this
          by_cases hx4 : hE l + 4 ≤ l.length
          rotate_left
          · have hf := fit_ext hxh.out (by omega)
            have he := Lib.hid (rerr_fit (l := l) hnn.out hnh.out g3h.out hf)
            have hnum : ∀ W, R8 W W.heap.size (some ⟨b, off, none⟩) n c l → Calls Try.prog 64 #[.slice (some ⟨b, off, none⟩) n c, .int .i64 (12 + 4 * (cN l : Int) + 2), .int .i64 2] W fun e w' => e = .returned (.int .u64 0) ∧ w' = W := by
              intro W hW
              refine (ref_num _ n c l W hW (by omega) (12 + 4 * (cN l : Int) + 2) 2 (by unfold I64; omega)).mono ?_
              rintro e w' ⟨rfl, rfl⟩
              have ht : thB l.length (12 + 4 * (cN l : Int) + 2) 2 = false := by unfold thB; rw [decide_eq_false_iff_not]; omega
              have : getN l (12 + 4 * (cN l : Int) + 2) 2 = 0 := by unfold getN; rw [ht]; simp
              rw [this]
              exact ⟨rfl, rfl⟩
            have hcut := fun W => ref_cut_no (some ⟨b, off, none⟩) n c W (by omega) (12 + 4 * (cN l : Int) + 4) 0 (by unfold I64; omega) (by have := hlh.out; unfold thB; rw [decide_eq_false_iff_not]; omega)
            clear hx hf hwn hE0
            go_wp2_with fail
            refine (hnum _ (h.on b07)).mono ?_
            rintro e w' ⟨rfl, hw'⟩
            obtain rfl := hw'.symm
            go_wp2_with fail
            refine (hcut _).mono ?_
            rintro e w' ⟨rfl, hw'⟩
            obtain rfl := hw'
            obtain ⟨k0, k1, k2, k3, k4, k5, k6, k7, k8⟩ := blk9 hR7
            have z0 := hR7.frozen 0
            have z1 := hR7.frozen 1
            have z2 := hR7.frozen 2
            have z3 := hR7.frozen 3
            have z4 := hR7.frozen 4
            have z5 := hR7.frozen 5
            have z6 := hR7.frozen 6
            have z7 := hR7.frozen 7
            have z8 := hR7.frozen 8
            go_wp2_with fail
            have hF := set9_blk (v0 := .bool false) (v1 := .int .i64 0) (v2 := .int .u16 0) (v3 := .int .u32 0) (v4 := .int .u32 0) (v5 := .slice none 0 0) (v6 := .int .u16 0) (v7 := .slice none 0 0) (v8 := .slice none 0 0) hR7
            have hG := b07.trans (set9_below (W := wr) (R := w.heap.size) (v0 := .bool false) (v1 := .int .i64 0) (v2 := .int .u16 0) (v3 := .int .u32 0) (v4 := .int .u32 0) (v5 := .slice none 0 0) (v6 := .int .u16 0) (v7 := .slice none 0 0) (v8 := .slice none 0 0) (Nat.le_refl _))
            change bodyPost _ _ _ _ _ (set9 wr w.heap.size (.bool false) (.int .i64 0) (.int .u16 0) (.int .u32 0) (.int .u32 0) (.slice none 0 0) (.int .u16 0) (.slice none 0 0) (.slice none 0 0))
            generalize set9 wr w.heap.size (.bool false) (.int .i64 0) (.int .u16 0) (.int .u32 0) (.int .u32 0) (.slice none 0 0) (.int .u16 0) (.slice none 0 0) (.slice none 0 0) = WF at hF hG ⊢
            clear k0 k1 k2 k3 k4 k5 k6 k7 k8
            obtain ⟨k0, k1, k2, k3, k4, k5, k6, k7, k8⟩ := blk9 hF
            refine bodyPost_ret (by simp [results, Try.results40, go_sem, k0, k1, k2, k3, k4, k5, k6, k7, k8]; try rfl) rfl ?_
            exact ReadOut.no he.out (by decide) hG
          have hnum := fun W (hW : R8 W W.heap.size (some ⟨b, off, none⟩) n c l) => ref_gn _ n c l W hW (by omega) (hE l + 2) 2 (by omega) (by omega) (by have := hlh.out; omega) (12 + 4 * (cN l : Int) + 2) 2 (by rw [hE0]; omega) rfl
          have hnum2 := fun W (hW : R8 W W.heap.size (some ⟨b, off, none⟩) n c l) => ref_gn _ n c l W hW (by omega) (hE l) 2 (by omega) (by omega) (by have := hlh.out; omega) (12 + 4 * (cN l : Int)) 2 (by rw [hE0]; omega) rfl
          rw [show gn l (hE l + 2) 2 = wN l from rfl] at hnum
          have hpS : pS l = 12 + 4 * cN l + 4 + 4 * wN l := by unfold pS; rw [hxh.out, if_pos rfl, hE0]
          by_cases hc4 : pS l ≤ l.length
          rotate_left
          · have hf : fit l = false := by
              unfold fit
              have : ¬ (pS l + padQ l ≤ l.length) := by omega
              rw [decide_eq_false this]
              simp
            have he := Lib.hid (rerr_fit (l := l) hnn.out hnh.out g3h.out hf)
            have hcut := fun W => ref_cut_no (some ⟨b, off, none⟩) n c W (by omega) (12 + 4 * (cN l : Int) + 4) (4 * (wN l : Int)) (by unfold I64; omega) (by have := hlh.out; unfold thB; rw [decide_eq_false_iff_not]; omega)
            clear hx hf hE0 hnum2 hpS hc4 hx4
            go_wp2_with fail
            refine (hnum _ (h.on b07)).mono ?_
            rintro e w' ⟨rfl, hw'⟩
            obtain rfl := hw'.symm
            go_wp2_with fail
            refine (hcut _).mono ?_
            rintro e w' ⟨rfl, hw'⟩
            obtain rfl := hw'
            obtain ⟨k0, k1, k2, k3, k4, k5, k6, k7, k8⟩ := blk9 hR7
            have z0 := hR7.frozen 0
            have z1 := hR7.frozen 1
            have z2 := hR7.frozen 2
            have z3 := hR7.frozen 3
            have z4 := hR7.frozen 4
            have z5 := hR7.frozen 5
            have z6 := hR7.frozen 6
            have z7 := hR7.frozen 7
            have z8 := hR7.frozen 8
            go_wp2_with fail
            have hF := set9_blk (v0 := .bool false) (v1 := .int .i64 0) (v2 := .int .u16 0) (v3 := .int .u32 0) (v4 := .int .u32 0) (v5 := .slice none 0 0) (v6 := .int .u16 0) (v7 := .slice none 0 0) (v8 := .slice none 0 0) hR7
            have hG := b07.trans (set9_below (W := wr) (R := w.heap.size) (v0 := .bool false) (v1 := .int .i64 0) (v2 := .int .u16 0) (v3 := .int .u32 0) (v4 := .int .u32 0) (v5 := .slice none 0 0) (v6 := .int .u16 0) (v7 := .slice none 0 0) (v8 := .slice none 0 0) (Nat.le_refl _))
            change bodyPost _ _ _ _ _ (set9 wr w.heap.size (.bool false) (.int .i64 0) (.int .u16 0) (.int .u32 0) (.int .u32 0) (.slice none 0 0) (.int .u16 0) (.slice none 0 0) (.slice none 0 0))
            generalize set9 wr w.heap.size (.bool false) (.int .i64 0) (.int .u16 0) (.int .u32 0) (.int .u32 0) (.slice none 0 0) (.int .u16 0) (.slice none 0 0) (.slice none 0 0) = WF at hF hG ⊢
            clear k0 k1 k2 k3 k4 k5 k6 k7 k8
            obtain ⟨k0, k1, k2, k3, k4, k5, k6, k7, k8⟩ := blk9 hF
            refine bodyPost_ret (by simp [results, Try.results40, go_sem, k0, k1, k2, k3, k4, k5, k6, k7, k8]; try rfl) rfl ?_
            exact ReadOut.no he.out (by decide) hG
          have hcut := fun W (hW : R8 W W.heap.size (some ⟨b, off, none⟩) n c l) => ref_cut_yes (some ⟨b, off, none⟩) n c l W hW (by omega) (hE l + 4) (4 * wN l) (by have := hlh.out; omega)
          rw [show ((hE l + 4 : Nat) : Int) = 12 + 4 * (cN l : Int) + 4 by rw [hE0]; omega, show ((4 * wN l : Nat) : Int) = 4 * (wN l : Int) by omega] at hcut
          have hpSh := Lib.hid hpS
          have hc4h := Lib.hid hc4
          have q6 := gn_lt l (hE l) 2
          obtain ⟨N6, hN6⟩ : ∃ N6, gn l (hE l) 2 = N6 := ⟨_, rfl⟩
          rw [hN6] at hnum2 q6
          have hN6h := Lib.hid hN6
          have u6 : (N6 : Int) % 65536 = N6 := by omega
          clear hx hpS hc4 hx4 hE0 hN6
          go_wp2_with fail
          refine (hnum _ (h.on b07)).mono ?_
          rintro e w' ⟨rfl, hw'⟩
          obtain rfl := hw'.symm
          go_wp2_with fail
          refine (hcut _ (h.on b07)).mono ?_
          rintro e w8 ⟨A2, n2, c2, rfl, r2, b8⟩
          have hR8 := hR7.below b8 (by omega)
          have hP8 := hP7.below b8 hPl7
          have b08 := b07.trans (b8.mono b07.size)
          have r1 := r1.on b8
          have hPl8 := hP8.lt
          have c0 := (b8.cell (p := ⟨b, off, none⟩) (Nat.lt_of_lt_of_le hbl b07.size)).trans c0
          clear hR7 hP7 b07 b8 hnum hcut a16 hPl7
          go_wp2_with fail
          refine (hnum2 _ (h.on b08)).mono ?_
          rintro e w' ⟨rfl, hw'⟩
          obtain rfl := hw'.symm
          clear hnum2
          have p6 : w8.cell? ⟨P, 6, none⟩ = some (.int .u16 0) := hP8.cell 6
          have p7 : w8.cell? ⟨P, 7, none⟩ = some (.slice none 0 0) := hP8.cell 7
          have z6 := hP8.frozen 6
          have z7 := hP8.frozen 7
          go_upto_region 21 with (fail)
          have hP9 := (hP8.set_ 6 (.int .u16 (N6 : Int)))
          have p7' : (w8.setCell ⟨P, 6, none⟩ (.int .u16 (N6 : Int))).cell? ⟨P, 7, none⟩ = some (.slice none 0 0) := hP9.cell 7
          have hP9 := hP9.set_ 7 (.slice A2 n2 c2)
          have hP9 : Blk ((w8.setCell ⟨P, 6, none⟩ (.int .u16 (N6 : Int))).setCell ⟨P, 7, none⟩ (.slice A2 n2 c2)) P 28 #[.bool M, .int .i64 (T : Int), .int .u16 (N2 : Int), .int .u32 (N4 : Int), .int .u32 (N8 : Int), .slice Au (cN l) cu, .int .u16 (N6 : Int), .slice A2 n2 c2, .slice none 0 0] := by simpa [pcsr] using hP9
          have hR9 := (hR8.far (p := ⟨P, 6, none⟩) (show w.heap.size ≠ P by omega) (.int .u16 (N6 : Int))).far (p := ⟨P, 7, none⟩) (show w.heap.size ≠ P by omega) (.slice A2 n2 c2)
          have b09 := Below.setCell (Below.setCell b08 (p := ⟨P, 6, none⟩) (show w.heap.size ≤ P by omega) (.int .u16 (N6 : Int))) (p := ⟨P, 7, none⟩) (show w.heap.size ≤ P by omega) (.slice A2 n2 c2)
          have r1 := (r1.setNot p6 (by simp) (.int .u16 (N6 : Int))).setNot p7' (by simp) (.slice A2 n2 c2)
          have r2 := (r2.setNot p6 (by simp) (.int .u16 (N6 : Int))).setNot p7' (by simp) (.slice A2 n2 c2)
          have c0 : ((w8.setCell ⟨P, 6, none⟩ (.int .u16 (N6 : Int))).setCell ⟨P, 7, none⟩ (.slice A2 n2 c2)).cell? ⟨b, off, none⟩ = some (.int .u8 (bt l 0 : Int)) := by
            rw [World.cell?_setCell_other _ _ _ _ (by intro e; injection e with e _ _; omega), World.cell?_setCell_other _ _ _ _ (by intro e; injection e with e _ _; omega)]
            exact c0
          have hsz9 : ((w8.setCell ⟨P, 6, none⟩ (.int .u16 (N6 : Int))).setCell ⟨P, 7, none⟩ (.slice A2 n2 c2)).heap.size = w8.heap.size := by rw [size_setCell, size_setCell]
          rw [← hsz9] at r1 r2
          clear hP8 hR8 b08 p6 p7 p7' z6 z7 hsz9 hPl8 u6
          generalize (w8.setCell ⟨P, 6, none⟩ (.int .u16 (N6 : Int))).setCell ⟨P, 7, none⟩ (.slice A2 n2 c2) = wr at hP9 hR9 b09 r1 r2 c0 ⊢
          have hP7 := hP9
          have hR7 := hR9
          have b07 := b09
          have hPl7 := hP7.lt
          clear hP9 hR9 b09
          go_wp2_with fail
          go_meet
          case rel => exact ⟨_, N6, A2, n2, c2, _, rfl, by first | rfl | (congr 1; have := hpSh.out; omega), hc4h.out, by have := hpSh.out; omega, hR7, hP7, b07, r1, r2, by rw [hxh.out]; simpa using hN6h.out, by rw [hxh.out]; rfl⟩
      case rest =>
        obtain ⟨W9, N6, A2, n2, c2, L2, rfl, rfl, hpS, hpS12, hR9, hP9, b09, r1, r2, hN6, hL2⟩ := hcut
        clear hR7 hP7 b07 hPl7 c0
        have hN6h := Lib.hid hN6
        have hL2h := Lib.hid hL2
        have hX4h := Lib.hid (hX4 hpS)
        have hPl9 := hP9.lt
        have c0 : W9.cell? ⟨b, off, none⟩ = some (.int .u8 (bt l 0 : Int)) := by
          obtain ⟨b', off', e, hlt', hc⟩ := (h.on b09).2.2 (by omega)
          cases e
          have := hc 0 (by omega)
          simpa [bt] using this
        clear hN6 hL2 hE0 hX4
        have hSn : pS l ≤ n := by have := hlh.out; omega
        have hpSh := Lib.hid hpS
        clear hpS
        generalize hSS : pS l = S at hSn hpS12 ⊢
        have hSh := Lib.hid hSS
        clear hSS
        go_upto_if 111 with (fail)
        go_cut [10] from 107 to 130 (fun s10 wc => W9 = wc ∧ s10 = .int .i64 (pE l : Nat) ∧ fit l = true)
        case first =>
          by_cases hp : isPd l = true
          rotate_left
          · have hph := Lib.hid (show isPd l = false by simpa using hp)
            have a32 : (bits BinOp.and .u8 (bt l 0 : Int) 32 != 0) = false := by rw [and32 _ hbt]; unfold isPd at hp; rw [decide_eq_true_eq] at hp; rw [show bt l 0 / 32 % 2 = 0 by omega]; rfl
            have hpq : padQ l = 0 := by unfold padQ; rw [hph.out]; rfl
            have hpE : pE l = n := by unfold pE; rw [hpq, hlh.out]; omega
            have hf : fit l = true := by
              rw [fit_end (by have := hlh.out; omega) hX4h.out (by intro hh; rw [hph.out] at hh; cases hh), decide_eq_true_eq, hpq, hlh.out, hSh.out]
              omega
            have hpEh := Lib.hid hpE
            have hfh := Lib.hid hf
            clear hp hpq hpE hf
            go_wp2_with fail
            go_meet
            case rel => exact ⟨rfl, by rw [hpEh.out], hfh.out⟩
          · have hph := Lib.hid hp
            have a32 : (bits BinOp.and .u8 (bt l 0 : Int) 32 != 0) = true := by rw [and32 _ hbt]; unfold isPd at hp; rw [decide_eq_true_eq] at hp; rw [hp]; rfl
            have gi : ((n : Int) - 1).toNat = n - 1 := by omega
            have cL : W9.cell? ⟨b, off + (n - 1), none⟩ = some (.int .u8 (padB l : Int)) := by
              obtain ⟨b', off', e, _, hc⟩ := (h.on b09).2.2 (by omega)
              cases e
              have := hc (n - 1) (by omega)
              unfold padB bt
              rw [hlh.out]
              exact this
            have hpb : padB l < 256 := bt_lt l (l.length - 1)
            clear hp
            by_cases hz : padB l = 0
            · have he := Lib.hid (rerr_fit (l := l) hnn.out hnh.out g3h.out (fit_pad hph.out hz))
              rw [hz] at cL
              clear hz
              obtain ⟨k0, k1, k2, k3, k4, k5, k6, k7, k8⟩ := blk9 hR9
              have z0 := hR9.frozen 0
              have z1 := hR9.frozen 1
              have z2 := hR9.frozen 2
              have z3 := hR9.frozen 3
              have z4 := hR9.frozen 4
              have z5 := hR9.frozen 5
              have z6 := hR9.frozen 6
              have z7 := hR9.frozen 7
              have z8 := hR9.frozen 8
              go_wp2_with fail
              have hF := set9_blk (v0 := .bool false) (v1 := .int .i64 0) (v2 := .int .u16 0) (v3 := .int .u32 0) (v4 := .int .u32 0) (v5 := .slice none 0 0) (v6 := .int .u16 0) (v7 := .slice none 0 0) (v8 := .slice none 0 0) hR9
              have hG := b09.trans (set9_below (W := W9) (R := w.heap.size) (v0 := .bool false) (v1 := .int .i64 0) (v2 := .int .u16 0) (v3 := .int .u32 0) (v4 := .int .u32 0) (v5 := .slice none 0 0) (v6 := .int .u16 0) (v7 := .slice none 0 0) (v8 := .slice none 0 0) (Nat.le_refl _))
              change bodyPost _ _ _ _ _ (set9 W9 w.heap.size (.bool false) (.int .i64 0) (.int .u16 0) (.int .u32 0) (.int .u32 0) (.slice none 0 0) (.int .u16 0) (.slice none 0 0) (.slice none 0 0))
              generalize set9 W9 w.heap.size (.bool false) (.int .i64 0) (.int .u16 0) (.int .u32 0) (.int .u32 0) (.slice none 0 0) (.int .u16 0) (.slice none 0 0) (.slice none 0 0) = WF at hF hG ⊢
              clear k0 k1 k2 k3 k4 k5 k6 k7 k8
              obtain ⟨k0, k1, k2, k3, k4, k5, k6, k7, k8⟩ := blk9 hF
              refine bodyPost_ret (by simp [results, Try.results40, go_sem, k0, k1, k2, k3, k4, k5, k6, k7, k8]; try rfl) rfl ?_
              exact ReadOut.no he.out (by decide) hG
            have gz : ((padB l : Int) == 0) = false := by simp; omega
            have hpq : padQ l = padB l := by unfold padQ; rw [hph.out]; rfl
            have hz0 := Lib.hid (show padB l ≠ 0 from hz)
            clear hz
            by_cases hpp : S + padB l ≤ n
            rotate_left
            · have hf : fit l = false := by
                unfold fit
                have : ¬ (pS l + padQ l ≤ l.length) := by rw [hpq, hlh.out, hSh.out]; exact hpp
                rw [decide_eq_false this]
                simp
              have he := Lib.hid (rerr_fit (l := l) hnn.out hnh.out g3h.out hf)
              have gp : (n : Int) - (S : Int) < (padB l : Int) := by omega
              clear hf hpp hpq
              obtain ⟨k0, k1, k2, k3, k4, k5, k6, k7, k8⟩ := blk9 hR9
              have z0 := hR9.frozen 0
              have z1 := hR9.frozen 1
              have z2 := hR9.frozen 2
              have z3 := hR9.frozen 3
              have z4 := hR9.frozen 4
              have z5 := hR9.frozen 5
              have z6 := hR9.frozen 6
              have z7 := hR9.frozen 7
              have z8 := hR9.frozen 8
              go_wp2_with fail
              have hF := set9_blk (v0 := .bool false) (v1 := .int .i64 0) (v2 := .int .u16 0) (v3 := .int .u32 0) (v4 := .int .u32 0) (v5 := .slice none 0 0) (v6 := .int .u16 0) (v7 := .slice none 0 0) (v8 := .slice none 0 0) hR9
              have hG := b09.trans (set9_below (W := W9) (R := w.heap.size) (v0 := .bool false) (v1 := .int .i64 0) (v2 := .int .u16 0) (v3 := .int .u32 0) (v4 := .int .u32 0) (v5 := .slice none 0 0) (v6 := .int .u16 0) (v7 := .slice none 0 0) (v8 := .slice none 0 0) (Nat.le_refl _))
              change bodyPost _ _ _ _ _ (set9 W9 w.heap.size (.bool false) (.int .i64 0) (.int .u16 0) (.int .u32 0) (.int .u32 0) (.slice none 0 0) (.int .u16 0) (.slice none 0 0) (.slice none 0 0))
              generalize set9 W9 w.heap.size (.bool false) (.int .i64 0) (.int .u16 0) (.int .u32 0) (.int .u32 0) (.slice none 0 0) (.int .u16 0) (.slice none 0 0) (.slice none 0 0) = WF at hF hG ⊢
              clear k0 k1 k2 k3 k4 k5 k6 k7 k8
              obtain ⟨k0, k1, k2, k3, k4, k5, k6, k7, k8⟩ := blk9 hF
              refine bodyPost_ret (by simp [results, Try.results40, go_sem, k0, k1, k2, k3, k4, k5, k6, k7, k8]; try rfl) rfl ?_
              exact ReadOut.no he.out (by decide) hG
            have gp : ¬ (n : Int) - (S : Int) < (padB l : Int) := by omega
            have hpE : pE l = n - padB l := by unfold pE; rw [hpq, hlh.out]
            have hf : fit l = true := by
              rw [fit_end (by have := hlh.out; omega) hX4h.out (by intro _; exact hz0.out), decide_eq_true_eq, hpq, hlh.out, hSh.out]
              exact hpp
            have hpEh := Lib.hid hpE
            have hfh := Lib.hid hf
            have hpph := Lib.hid hpp
            clear hpq hpE hf
            go_wp2_with fail
            go_meet
            case rel => exact ⟨rfl, by congr 1; rw [hpEh.out]; have := hpph.out; omega, hfh.out⟩
        case rest =>
          obtain ⟨rfl, rfl, hf⟩ := hcut
          have hff := fit_facts hf
          have hfh := Lib.hid hf
          have hEl : pE l ≤ n ∧ S ≤ pE l := by have := hff; rw [hlh.out, hSh.out] at this; omega
          clear hf hff
          obtain ⟨E, hEE⟩ : ∃ E, pE l = E := ⟨_, rfl⟩
          rw [hEE] at hEl ⊢
          have hEh := Lib.hid hEE
          clear hEE
          have m6 : W9.cell? ⟨P, 6, none⟩ = some (.int .u16 (N6 : Int)) := hP9.cell 6
          by_cases hx : isX l = true
          · have hxh := Lib.hid hx
            have a16 : (bits BinOp.and .u8 (bt l 0 : Int) 16 != 0) = true := by rw [and16 _ hbt]; unfold isX at hx; rw [decide_eq_true_eq] at hx; rw [hx]; rfl
            clear hx
            by_cases h60 : N6 = 0
            · have he := Lib.hid (rerr_prof (l := l) hnn.out hnh.out g3h.out hfh.out hxh.out (by have := hN6h.out; rw [hxh.out, if_pos rfl] at this; omega))
              have m60 : W9.cell? ⟨P, 6, none⟩ = some (.int .u16 0) := by rw [m6, h60]; rfl
              clear h60 m6
              obtain ⟨k0, k1, k2, k3, k4, k5, k6, k7, k8⟩ := blk9 hR9
              have z0 := hR9.frozen 0
              have z1 := hR9.frozen 1
              have z2 := hR9.frozen 2
              have z3 := hR9.frozen 3
              have z4 := hR9.frozen 4
              have z5 := hR9.frozen 5
              have z6 := hR9.frozen 6
              have z7 := hR9.frozen 7
              have z8 := hR9.frozen 8
              go_wp2_with fail
              have hF := set9_blk (v0 := .bool false) (v1 := .int .i64 0) (v2 := .int .u16 0) (v3 := .int .u32 0) (v4 := .int .u32 0) (v5 := .slice none 0 0) (v6 := .int .u16 0) (v7 := .slice none 0 0) (v8 := .slice none 0 0) hR9
              have hG := b09.trans (set9_below (W := W9) (R := w.heap.size) (v0 := .bool false) (v1 := .int .i64 0) (v2 := .int .u16 0) (v3 := .int .u32 0) (v4 := .int .u32 0) (v5 := .slice none 0 0) (v6 := .int .u16 0) (v7 := .slice none 0 0) (v8 := .slice none 0 0) (Nat.le_refl _))
              change bodyPost _ _ _ _ _ (set9 W9 w.heap.size (.bool false) (.int .i64 0) (.int .u16 0) (.int .u32 0) (.int .u32 0) (.slice none 0 0) (.int .u16 0) (.slice none 0 0) (.slice none 0 0))
              generalize set9 W9 w.heap.size (.bool false) (.int .i64 0) (.int .u16 0) (.int .u32 0) (.int .u32 0) (.slice none 0 0) (.int .u16 0) (.slice none 0 0) (.slice none 0 0) = WF at hF hG ⊢
              clear k0 k1 k2 k3 k4 k5 k6 k7 k8
              obtain ⟨k0, k1, k2, k3, k4, k5, k6, k7, k8⟩ := blk9 hF
              refine bodyPost_ret (by simp [results, Try.results40, go_sem, k0, k1, k2, k3, k4, k5, k6, k7, k8]; try rfl) rfl ?_
              exact ReadOut.no he.out (by decide) hG
            have g6 : ((N6 : Int) == 0) = false := by simp; omega
            have hErr := Lib.hid (rerr_ok (l := l) hnn.out hnh.out g3h.out hfh.out (by intro _; have := hN6h.out; rw [hxh.out, if_pos rfl] at this; omega))
            clear h60
            have hcut : ∀ W : World, (Instr.slice 26 (.slice (some ⟨b, off, none⟩) n c) (some (.int .i64 (S : Int))) (some (.int .i64 (E : Int))) none).run Try.prog W = .ok (.slice (cutA (some ⟨b, off, none⟩) c S) (E - S) (c - S)) W := by
              intro W
              have := run_cut (P := Try.prog) 26 5 Try.underlying26 u8_size (some ⟨b, off, none⟩) n c .i64 .i64 (S : Int) (E : Int) (by omega) (by omega) (by have := h.2.1; omega) W
              simpa only [Int.toNat_natCast] using this
            have rc := ((h.on b09).cut S E hEl.2 hEl.1).alloc (Nat.le_refl _) (.cells #[] 5)
            have oe := Own8.empty W9 W9.heap.size (Nat.le_refl _)
            have hbb : ([] : List UInt8).length + (E - S) ≤ 140737488355328 := by simp; omega
            have mP8 : W9.cell? ⟨P, 8, none⟩ = some (.slice none 0 0) := hP9.cell 8
            obtain ⟨LL, hLL⟩ : ∃ LL, (l.drop S).take (E - S) = LL := ⟨_, rfl⟩
            rw [hLL] at rc
            have hLLh := Lib.hid (show (l.drop (pS l)).take (pE l - pS l) = LL by rw [hSh.out, hEh.out]; exact hLL)
            clear hLL
            generalize E - S = K3 at hcut rc hbb
            go_upto_region 31 with (at_builtin; (with_reducible refine wpList_append8 rfl (.tmp 142) (.tmp 146) rfl rfl W9.heap.size (.slice (some ⟨W9.heap.size, 0, none⟩) 0 0) [] (by with_unfolding_all rfl) oe W9.heap.size _ K3 _ _ (by with_unfolding_all rfl) rc hbb (by simp) ?_); intro v9 w9 ha9; have be9 := ha9.below ((Below.refl W9.heap.size W9).alloc (Nat.le_refl _) _) (by simp) oe (Nat.le_refl _); have x8 : w9.cell? ⟨P, 8, none⟩ = some (.slice none 0 0) := (be9.cell (p := ⟨P, 8, none⟩) hPl9).trans mP8; have zz8 : w9.frozen? ⟨P, 8, none⟩ = false := (hP9.below be9 hPl9).frozen 8; obtain ⟨A3, c3, rfl, r3⟩ := ha9.1.r8)
            have e3 : ([] ++ LL : List UInt8).length = LL.length := by simp
            rw [e3, List.nil_append] at r3
            try rw [e3]
            have hR11 := hR9.below be9 hR9.lt
            have hP11 := hP9.below be9 hPl9
            have b11 := b09.trans (be9.mono b09.size)
            have r1 := r1.on be9
            have r2 := r2.on be9
            clear hR9 hP9 b09 be9 ha9 rc oe hbb e3 hcut mP8 m6 a16
            have hP12 : Blk (w9.setCell ⟨P, 8, none⟩ (.slice A3 LL.length c3)) P 28 #[.bool M, .int .i64 (T : Int), .int .u16 (N2 : Int), .int .u32 (N4 : Int), .int .u32 (N8 : Int), .slice Au (cN l) cu, .int .u16 (N6 : Int), .slice A2 n2 c2, .slice A3 LL.length c3] := by
              have := hP11.set_ 8 (.slice A3 LL.length c3)
              simpa using this
            have hR12 := hR11.far (p := ⟨P, 8, none⟩) (show w.heap.size ≠ P by omega) (.slice A3 LL.length c3)
            have b12 := Below.setCell b11 (p := ⟨P, 8, none⟩) (show w.heap.size ≤ P by omega) (.slice A3 LL.length c3)
            have r1 := r1.setNot x8 (by simp) (.slice A3 LL.length c3)
            have r2 := r2.setNot x8 (by simp) (.slice A3 LL.length c3)
            have r3 := r3.setNot x8 (by simp) (.slice A3 LL.length c3)
            have hsz12 := size_setCell w9 ⟨P, 8, none⟩ (.slice A3 LL.length c3)
            rw [← hsz12] at r1 r3 r2
            clear hR11 hP11 b11 x8 zz8 hsz12
            generalize w9.setCell ⟨P, 8, none⟩ (.slice A3 LL.length c3) = W12 at hR12 hP12 b12 r1 r2 r3 ⊢
            obtain ⟨m0, m1, m2, m3, m4, m5, m6, m7, m8⟩ := blk9 hP12
            obtain ⟨k0, k1, k2, k3, k4, k5, k6, k7, k8⟩ := blk9 hR12
            have z0 := hR12.frozen 0
            have z1 := hR12.frozen 1
            have z2 := hR12.frozen 2
            have z3 := hR12.frozen 3
            have z4 := hR12.frozen 4
            have z5 := hR12.frozen 5
            have z6 := hR12.frozen 6
            have z7 := hR12.frozen 7
            have z8 := hR12.frozen 8
            go_wp2_with fail
            have hF := set9_blk (v0 := .bool M) (v1 := .int .i64 (T : Int)) (v2 := .int .u16 (N2 : Int)) (v3 := .int .u32 (N4 : Int)) (v4 := .int .u32 (N8 : Int)) (v5 := .slice Au (cN l) cu) (v6 := .int .u16 (N6 : Int)) (v7 := .slice A2 n2 c2) (v8 := .slice A3 LL.length c3) hR12
            have hG := b12.trans (set9_below (W := W12) (R := w.heap.size) (v0 := .bool M) (v1 := .int .i64 (T : Int)) (v2 := .int .u16 (N2 : Int)) (v3 := .int .u32 (N4 : Int)) (v4 := .int .u32 (N8 : Int)) (v5 := .slice Au (cN l) cu) (v6 := .int .u16 (N6 : Int)) (v7 := .slice A2 n2 c2) (v8 := .slice A3 LL.length c3) (Nat.le_refl _))
            change bodyPost _ _ _ _ _ (set9 W12 w.heap.size (.bool M) (.int .i64 (T : Int)) (.int .u16 (N2 : Int)) (.int .u32 (N4 : Int)) (.int .u32 (N8 : Int)) (.slice Au (cN l) cu) (.int .u16 (N6 : Int)) (.slice A2 n2 c2) (.slice A3 LL.length c3))
            have hkeep : ∀ p : Addr, p.block ≠ w.heap.size → (set9 W12 w.heap.size (.bool M) (.int .i64 (T : Int)) (.int .u16 (N2 : Int)) (.int .u32 (N4 : Int)) (.int .u32 (N8 : Int)) (.slice Au (cN l) cu) (.int .u16 (N6 : Int)) (.slice A2 n2 c2) (.slice A3 LL.length c3)).cell? p = W12.cell? p := fun p hp => World.cell?_of_block (set9_far (W := W12) (R := w.heap.size) p.block hp)
            have q1 := r1.far (fun ad e => by have := hfar ad e; omega) hkeep (set9_size _ _)
            have q2 := r2.far hR12 hkeep (set9_size _ _)
            have q3 := r3.far hR12 hkeep (set9_size _ _)
            generalize set9 W12 w.heap.size (.bool M) (.int .i64 (T : Int)) (.int .u16 (N2 : Int)) (.int .u32 (N4 : Int)) (.int .u32 (N8 : Int)) (.slice Au (cN l) cu) (.int .u16 (N6 : Int)) (.slice A2 n2 c2) (.slice A3 LL.length c3) = WF at hF hG q1 q2 q3 ⊢
            clear hkeep k0 k1 k2 k3 k4 k5 k6 k7 k8
            obtain ⟨k0, k1, k2, k3, k4, k5, k6, k7, k8⟩ := blk9 hF
            refine bodyPost_ret (by simp [results, Try.results40, go_sem, k0, k1, k2, k3, k4, k5, k6, k7, k8]; try rfl) rfl ?_
            exact ReadOut.yes hErr.out hnn.out hMh.out hTh.out hN2h.out hN4h.out hN8h.out q1 hN6h.out q2 hL2h.out q3 hLLh.out hG
          · have hxh := Lib.hid (show isX l = false by simpa using hx)
            have a16 : (bits BinOp.and .u8 (bt l 0 : Int) 16 != 0) = false := by rw [and16 _ hbt]; unfold isX at hx; rw [decide_eq_true_eq] at hx; rw [show bt l 0 / 16 % 2 = 0 by omega]; rfl
            have hErr := Lib.hid (rerr_ok (l := l) hnn.out hnh.out g3h.out hfh.out (by intro hh; rw [hxh.out] at hh; cases hh))
            clear hx
            have hcut : ∀ W : World, (Instr.slice 26 (.slice (some ⟨b, off, none⟩) n c) (some (.int .i64 (S : Int))) (some (.int .i64 (E : Int))) none).run Try.prog W = .ok (.slice (cutA (some ⟨b, off, none⟩) c S) (E - S) (c - S)) W := by
              intro W
              have := run_cut (P := Try.prog) 26 5 Try.underlying26 u8_size (some ⟨b, off, none⟩) n c .i64 .i64 (S : Int) (E : Int) (by omega) (by omega) (by have := h.2.1; omega) W
              simpa only [Int.toNat_natCast] using this
            have rc := ((h.on b09).cut S E hEl.2 hEl.1).alloc (Nat.le_refl _) (.cells #[] 5)
            have oe := Own8.empty W9 W9.heap.size (Nat.le_refl _)
            have hbb : ([] : List UInt8).length + (E - S) ≤ 140737488355328 := by simp; omega
            have mP8 : W9.cell? ⟨P, 8, none⟩ = some (.slice none 0 0) := hP9.cell 8
            obtain ⟨LL, hLL⟩ : ∃ LL, (l.drop S).take (E - S) = LL := ⟨_, rfl⟩
            rw [hLL] at rc
            have hLLh := Lib.hid (show (l.drop (pS l)).take (pE l - pS l) = LL by rw [hSh.out, hEh.out]; exact hLL)
            clear hLL
            generalize E - S = K3 at hcut rc hbb
            go_upto_region 31 with (at_builtin; (with_reducible refine wpList_append8 rfl (.tmp 142) (.tmp 146) rfl rfl W9.heap.size (.slice (some ⟨W9.heap.size, 0, none⟩) 0 0) [] (by with_unfolding_all rfl) oe W9.heap.size _ K3 _ _ (by with_unfolding_all rfl) rc hbb (by simp) ?_); intro v9 w9 ha9; have be9 := ha9.below ((Below.refl W9.heap.size W9).alloc (Nat.le_refl _) _) (by simp) oe (Nat.le_refl _); have x8 : w9.cell? ⟨P, 8, none⟩ = some (.slice none 0 0) := (be9.cell (p := ⟨P, 8, none⟩) hPl9).trans mP8; have zz8 : w9.frozen? ⟨P, 8, none⟩ = false := (hP9.below be9 hPl9).frozen 8; obtain ⟨A3, c3, rfl, r3⟩ := ha9.1.r8)
            have e3 : ([] ++ LL : List UInt8).length = LL.length := by simp
            rw [e3, List.nil_append] at r3
            try rw [e3]
            have hR11 := hR9.below be9 hR9.lt
            have hP11 := hP9.below be9 hPl9
            have b11 := b09.trans (be9.mono b09.size)
            have r1 := r1.on be9
            have r2 := r2.on be9
            clear hR9 hP9 b09 be9 ha9 rc oe hbb e3 hcut mP8 m6 a16
            have hP12 : Blk (w9.setCell ⟨P, 8, none⟩ (.slice A3 LL.length c3)) P 28 #[.bool M, .int .i64 (T : Int), .int .u16 (N2 : Int), .int .u32 (N4 : Int), .int .u32 (N8 : Int), .slice Au (cN l) cu, .int .u16 (N6 : Int), .slice A2 n2 c2, .slice A3 LL.length c3] := by
              have := hP11.set_ 8 (.slice A3 LL.length c3)
              simpa using this
            have hR12 := hR11.far (p := ⟨P, 8, none⟩) (show w.heap.size ≠ P by omega) (.slice A3 LL.length c3)
            have b12 := Below.setCell b11 (p := ⟨P, 8, none⟩) (show w.heap.size ≤ P by omega) (.slice A3 LL.length c3)
            have r1 := r1.setNot x8 (by simp) (.slice A3 LL.length c3)
            have r2 := r2.setNot x8 (by simp) (.slice A3 LL.length c3)
            have r3 := r3.setNot x8 (by simp) (.slice A3 LL.length c3)
            have hsz12 := size_setCell w9 ⟨P, 8, none⟩ (.slice A3 LL.length c3)
            rw [← hsz12] at r1 r3 r2
            clear hR11 hP11 b11 x8 zz8 hsz12
            generalize w9.setCell ⟨P, 8, none⟩ (.slice A3 LL.length c3) = W12 at hR12 hP12 b12 r1 r2 r3 ⊢
            obtain ⟨m0, m1, m2, m3, m4, m5, m6, m7, m8⟩ := blk9 hP12
            obtain ⟨k0, k1, k2, k3, k4, k5, k6, k7, k8⟩ := blk9 hR12
            have z0 := hR12.frozen 0
            have z1 := hR12.frozen 1
            have z2 := hR12.frozen 2
            have z3 := hR12.frozen 3
            have z4 := hR12.frozen 4
            have z5 := hR12.frozen 5
            have z6 := hR12.frozen 6
            have z7 := hR12.frozen 7
            have z8 := hR12.frozen 8
            go_wp2_with fail
            have hF := set9_blk (v0 := .bool M) (v1 := .int .i64 (T : Int)) (v2 := .int .u16 (N2 : Int)) (v3 := .int .u32 (N4 : Int)) (v4 := .int .u32 (N8 : Int)) (v5 := .slice Au (cN l) cu) (v6 := .int .u16 (N6 : Int)) (v7 := .slice A2 n2 c2) (v8 := .slice A3 LL.length c3) hR12
            have hG := b12.trans (set9_below (W := W12) (R := w.heap.size) (v0 := .bool M) (v1 := .int .i64 (T : Int)) (v2 := .int .u16 (N2 : Int)) (v3 := .int .u32 (N4 : Int)) (v4 := .int .u32 (N8 : Int)) (v5 := .slice Au (cN l) cu) (v6 := .int .u16 (N6 : Int)) (v7 := .slice A2 n2 c2) (v8 := .slice A3 LL.length c3) (Nat.le_refl _))
            change bodyPost _ _ _ _ _ (set9 W12 w.heap.size (.bool M) (.int .i64 (T : Int)) (.int .u16 (N2 : Int)) (.int .u32 (N4 : Int)) (.int .u32 (N8 : Int)) (.slice Au (cN l) cu) (.int .u16 (N6 : Int)) (.slice A2 n2 c2) (.slice A3 LL.length c3))
            have hkeep : ∀ p : Addr, p.block ≠ w.heap.size → (set9 W12 w.heap.size (.bool M) (.int .i64 (T : Int)) (.int .u16 (N2 : Int)) (.int .u32 (N4 : Int)) (.int .u32 (N8 : Int)) (.slice Au (cN l) cu) (.int .u16 (N6 : Int)) (.slice A2 n2 c2) (.slice A3 LL.length c3)).cell? p = W12.cell? p := fun p hp => World.cell?_of_block (set9_far (W := W12) (R := w.heap.size) p.block hp)
            have q1 := r1.far (fun ad e => by have := hfar ad e; omega) hkeep (set9_size _ _)
            have q2 := r2.far hR12 hkeep (set9_size _ _)
            have q3 := r3.far hR12 hkeep (set9_size _ _)
            generalize set9 W12 w.heap.size (.bool M) (.int .i64 (T : Int)) (.int .u16 (N2 : Int)) (.int .u32 (N4 : Int)) (.int .u32 (N8 : Int)) (.slice Au (cN l) cu) (.int .u16 (N6 : Int)) (.slice A2 n2 c2) (.slice A3 LL.length c3) = WF at hF hG q1 q2 q3 ⊢
            clear hkeep k0 k1 k2 k3 k4 k5 k6 k7 k8
            obtain ⟨k0, k1, k2, k3, k4, k5, k6, k7, k8⟩ := blk9 hF
            refine bodyPost_ret (by simp [results, Try.results40, go_sem, k0, k1, k2, k3, k4, k5, k6, k7, k8]; try rfl) rfl ?_
            exact ReadOut.yes hErr.out hnn.out hMh.out hTh.out hN2h.out hN4h.out hN8h.out q1 hN6h.out q2 hL2h.out q3 hLLh.out hG
end Go.Proofs.Ytpcdmcaojgpfoaa
