/- Contract: limelightbook.Within. Contract: limelightbook.Within, its number chosen ahead of the world. Contract: (*limelightkeep.Tape).Next. Contracts: (*limelightkeep.Tape).Bytes, Word. Contract: (*limelightkeep.Tape).Tuple. Contract: limelightref1.Pad. -/
import Derived.Test.YtnchgmemajmkjaaBase
import Derived.Test.YtnchgmemajmkjaaTape
import Derived.BigQuiet
import Derived.Deep.QuietTactic
import Derived.Test.YtnchgmemajmkjaaAppV
import Derived.Test.YtnchgmemajmkjaaRatR
import Derived.Test.YtnchgmemajmkjaaRcM
import Derived.Test.YtnchgmemajmkjaaCRefPut
namespace Go.Proofs.Ytnchgmemajmkjaa
open Go.RowKit
set_option linter.unusedVariables false
set_option linter.unusedSimpArgs false
set_option maxRecDepth 20000

/-- Within: some number of the range. -/
def InR (lo hi : Int) (w : World) (e : Ending) (w' : World) : Prop := ∃ r : Int, e = .returned (.int .i64 r) ∧ lo ≤ r ∧ r ≤ hi ∧ w = w'
theorem within_any (x lo hi : Int) (w : World) (hx : I64 x) (h0 : 0 ≤ lo) (h1 : lo ≤ hi) (h2 : hi ≤ 281474976710656) :
    Calls Try.prog 16 #[.int .i64 x, .int .i64 lo, .int .i64 hi] w (InR lo hi w) := by
  by_cases c1 : lo ≤ x ∧ x ≤ hi
  · obtain ⟨c1, c2⟩ := c1
    go_enter Try.func16, Try.ntmps16
    go_wp2
    go_ret
    exact ⟨x, rfl, c1, c2, rfl⟩
  · have m1 := Int.lt_tmod_of_pos x (show 0 < hi - lo + 1 by omega)
    have m2 := Int.tmod_lt_of_pos x (show 0 < hi - lo + 1 by omega)
    have m3 := Int.emod_nonneg x (show hi - lo + 1 ≠ 0 by omega)
    have m4 := Int.emod_lt_of_pos x (show 0 < hi - lo + 1 by omega)
    by_cases c2 : lo ≤ x
    all_goals
      go_enter Try.func16, Try.ntmps16
      go_wp2
    all_goals go_ret
    all_goals exact ⟨_, rfl, by omega, by omega, rfl⟩
end Go.Proofs.Ytnchgmemajmkjaa
namespace Go.Proofs.Ytnchgmemajmkjaa
open Go.RowKit
set_option linter.unusedVariables false
set_option linter.unusedSimpArgs false
set_option maxRecDepth 20000

theorem within_ex (x lo hi : Int) (hx : I64 x) (h0 : 0 ≤ lo) (h1 : lo ≤ hi) (h2 : hi ≤ 281474976710656) :
    ∃ r : Int, lo ≤ r ∧ r ≤ hi ∧ (lo ≤ x → x ≤ hi → r = x) ∧ ∀ w, Calls Try.prog 16 #[.int .i64 x, .int .i64 lo, .int .i64 hi] w fun e w' => e = .returned (.int .i64 r) ∧ w' = w := by
  by_cases c1 : lo ≤ x ∧ x ≤ hi
  · refine ⟨x, c1.1, c1.2, fun _ _ => rfl, fun w => ?_⟩
    obtain ⟨c1, c2⟩ := c1
    go_enter Try.func16, Try.ntmps16
    go_wp2
    go_ret
    exact ⟨rfl, rfl⟩
  · have m1 := Int.lt_tmod_of_pos x (show 0 < hi - lo + 1 by omega)
    have m2 := Int.tmod_lt_of_pos x (show 0 < hi - lo + 1 by omega)
    have m3 := Int.emod_nonneg x (show hi - lo + 1 ≠ 0 by omega)
    have m4 := Int.emod_lt_of_pos x (show 0 < hi - lo + 1 by omega)
    by_cases c2 : lo ≤ x
    · refine ⟨lo + x % (hi - lo + 1), by omega, by omega, fun a b => absurd ⟨a, b⟩ c1, fun w => ?_⟩
      go_enter Try.func16, Try.ntmps16
      go_wp2
      go_ret
      exact ⟨rfl, rfl⟩
    · by_cases c3 : x.tmod (hi - lo + 1) < 0
      · refine ⟨lo + (x.tmod (hi - lo + 1) + hi - lo + 1), by omega, by omega, fun a b => absurd ⟨a, b⟩ c1, fun w => ?_⟩
        go_enter Try.func16, Try.ntmps16
        go_wp2
        go_ret
        exact ⟨rfl, rfl⟩
      · refine ⟨lo + x.tmod (hi - lo + 1), by omega, by omega, fun a b => absurd ⟨a, b⟩ c1, fun w => ?_⟩
        go_enter Try.func16, Try.ntmps16
        go_wp2
        go_ret
        exact ⟨rfl, rfl⟩
end Go.Proofs.Ytnchgmemajmkjaa
namespace Go.Proofs.Ytnchgmemajmkjaa
open Go.RowKit
set_option linter.unusedVariables false
set_option linter.unusedSimpArgs false
set_option maxRecDepth 20000

/-- A number of 0 to n - 1 (0 if there is none). -/
def NextOut (g : Nat) (n : Int) (w : World) (e : Ending) (w' : World) : Prop := ∃ r : Int, e = .returned (.int .i64 r) ∧ 0 ≤ r ∧ (r < n ∨ r = 0) ∧ Moves g w w'
theorem next_any (g : Nat) (n : Int) (w : World) (hT : TapeAt w g) (hn : I64 n) :
    Calls Try.prog 27 #[.pointer (some ⟨g, 0, none⟩), .int .i64 n] w (NextOut g n w) := by
  have hT' := hT
  obtain ⟨A, N, c, k, hg, hk, hN, hr⟩ := hT
  have c0 : w.cell? ⟨g, 0, none⟩ = some (.slice A N c) := by simp [World.cell?, hg]
  have c1 : w.cell? ⟨g, 1, none⟩ = some (.int .i64 (k : Int)) := by simp [World.cell?, hg]
  have f1 : w.frozen? ⟨g, 1, none⟩ = false := by simp [World.frozen?, hg]
  go_enter Try.func27, Try.ntmps27
  by_cases h1 : N ≤ k
  · have g1 : decide ((N : Int) ≤ (k : Int)) = true := by simp; omega
    go_wp2_with fail
    go_quiet (fail)
    go_wp2_with fail
    go_ret
    exact ⟨0, rfl, by omega, .inr rfl, Moves.of hT' (below_drewN _ w nq)⟩
  have g1 : decide ((N : Int) ≤ (k : Int)) = false := by simp; omega
  by_cases h2 : n < 1
  · have g2 : decide (n < 1) = true := by simp; omega
    go_wp2_with fail
    go_quiet (fail)
    go_wp2_with fail
    go_ret
    exact ⟨0, rfl, by omega, .inr rfl, Moves.of hT' (below_drewN _ w nq)⟩
  have g2 : decide (n < 1) = false := by simp; omega
  obtain ⟨b, off, rfl, hb, hc⟩ := hr.2 (by omega)
  obtain ⟨x, hx, hcx⟩ := hc k (by omega)
  clear hc
  obtain ⟨r, hr0, hr1, _, hwi⟩ := within_ex x 0 1073741824 hx (by omega) (by omega) (by omega)
  go_wp2_with fail
  go_quiet (fail)
  go_wp2_with fail
  have d0 : ((w.drewN nq).setCell ⟨g, 1, none⟩ (.int .i64 ((k : Int) + 1))).cell? ⟨g, 0, none⟩ = some (.slice (some ⟨b, off, none⟩) N c) := by
    rw [World.cell?_setCell_other _ _ _ _ (by simp)]
    exact c0
  have d1 : ((w.drewN nq).setCell ⟨g, 1, none⟩ (.int .i64 ((k : Int) + 1))).cell? ⟨g, 1, none⟩ = some (.int .i64 ((k : Int) + 1)) :=
    World.cell?_setCell_same _ _ _ (show (w.drewN nq).cell? ⟨g, 1, none⟩ = _ from c1)
  have d2 : ((w.drewN nq).setCell ⟨g, 1, none⟩ (.int .i64 ((k : Int) + 1))).cell? ⟨b, off + k, none⟩ = some (.int .i64 x) := by
    rw [World.cell?_setCell_other _ _ _ _ (by intro e; have := congrArg Addr.block e; simp at this; omega)]
    exact hcx
  have hm : Moves g w ((w.drewN nq).setCell ⟨g, 1, none⟩ (.int .i64 ((k : Int) + 1))) := by
    refine ⟨Below.setCell (below_drewN g w nq) (p := ⟨g, 1, none⟩) (Nat.le_refl _) _, fun j hj hne => Below.heap_setCell _ _ _ _ hne, ?_⟩
    refine ⟨some ⟨b, off, none⟩, N, c, k + 1, ?_, by omega, hN, hr.keep (Below.setCell (below_drewN g w nq) (p := ⟨g, 1, none⟩) (Nat.le_refl _) _)⟩
    exact Blk.set_ (w := w.drewN nq) (g := g) hg 1 (.int .i64 ((k : Int) + 1))
  revert d0 d1 d2 hm
  generalize (w.drewN nq).setCell ⟨g, 1, none⟩ (.int .i64 ((k : Int) + 1)) = W
  intro d0 d1 d2 hm
  clear c0 c1 f1 hcx hg hT'
  go_quiet ((go_at_call 16; refine Calls.quiet_of_same (hwi _)))
  go_wp2_with fail
  go_ret
  refine ⟨_, rfl, Int.emod_nonneg _ (by omega), .inl (Int.emod_lt_of_pos _ (by omega)), hm.trans (Moves.of hm.tape (below_drewN _ W _))⟩
end Go.Proofs.Ytnchgmemajmkjaa
namespace Go.Proofs.Ytnchgmemajmkjaa
open Go.RowKit
set_option linter.unusedVariables false
set_option linter.unusedSimpArgs false
set_option maxRecDepth 20000

/-- So many bytes at most, in new memory (or none). -/
def BytesOut (g : Nat) (n : Nat) (w : World) (e : Ending) (w' : World) : Prop :=
  ∃ A c l, e = .returned (.slice A l.length c) ∧ l.length ≤ n ∧ R8 w' w'.heap.size A l.length c l ∧ Moves g w w' ∧ ∀ ad, A = some ad → w.heap.size ≤ ad.block ∧ ad.block < w'.heap.size
theorem Own8.nil (w : World) (base : Nat) : Own8 w base (.slice none 0 0) [] := ⟨rfl, .inl ⟨rfl, rfl⟩⟩
theorem tape_bytes (g n : Nat) (w : World) (hT : TapeAt w g) (hn : n ≤ 1000000) :
    Calls Try.prog 31 #[.pointer (some ⟨g, 0, none⟩), .int .i64 (n : Int)] w (BytesOut g n w) := by
  have hg := hT.lt
  go_enter Try.func31, Try.ntmps31
  go_wp2_with fail
  refine (next_any g ((n : Int) + 1) _ hT (by unfold I64; omega)).mono ?_
  rintro e w1 ⟨r, rfl, hr0, hr1, hm1⟩
  go_wp2_with fail
  go_loopw [5, 6] (fun v i wr => ∃ (k : Nat) (l : List UInt8), i = .int .i64 (k : Int) ∧ l.length + k ≤ n ∧ Own8 wr w.heap.size v l ∧ Moves g w wr) (fun _ i _ => (intOf i).toNat)
  case atStart =>
    exact ⟨r.toNat, [], by congr 1; omega, by simp; omega, Own8.nil _ _, hm1⟩
  case round =>
    obtain ⟨k, l, rfl, hl, hor, hmr⟩ := hrel
    by_cases hk : 0 < k
    · have hk' : (0 : Int) < (k : Int) := by omega
      go_wp2_with fail
      refine (next_any g 256 _ hmr.tape (by unfold I64; omega)).mono ?_
      rintro e w2 ⟨x, rfl, hx0, hx1, hm2⟩
      have hor2 : Own8 w2 w.heap.size _ l := own_moves hor hg hm2
      have hmw := hmr.trans hm2
      have hsz := hmw.below.size
      have hx8 := Lib.hid (show x = (((UInt8.ofNat x.toNat).toNat : Nat) : Int) by simp; omega)
      have hlb := Lib.hid (show l.length + 1 ≤ 140737488355328 by omega)
      clear hm2 hmr hor
      go_wp2_with (at_builtin; with_reducible refine wpList_append8 rfl (.tmp 15) (.tmp 19) rfl rfl w.heap.size _ _ rfl (hor2.alloc _) (w2.heap.size + 1) _ 1 1 [UInt8.ofNat x.toNat] rfl (one_r8 _ _ _ hx8.out) hlb.out (le_alloc hsz _) ?_; intro v2 w3 ha2)
      have hb2 := ha2.below ((Below.refl w.heap.size w2).alloc hsz _) (le_alloc hsz _) (hor2.alloc _) (Nat.le_refl _)
      go_roundw
      case rel =>
        exact ⟨k - 1, l ++ [UInt8.ofNat x.toNat], by congr 1; omega, by simp; omega, ha2.1, hmw.and hg hb2⟩
      case measure => simp [intOf]; omega
    · have hk' : ¬ (0 : Int) < (k : Int) := by omega
      obtain ⟨A, c, rfl, hR⟩ := hor.r8
      go_wp2_with fail
      go_ret
      exact ⟨A, c, l, rfl, by omega, hR, hmr, own_block hor⟩
/-- A number of 32 bits. -/
def WordOut (g : Nat) (w : World) (e : Ending) (w' : World) : Prop := ∃ x : Nat, e = .returned (.int .u32 (x : Int)) ∧ x < 4294967296 ∧ Moves g w w'
theorem u32_wrap (z : Int) : ∃ x : Nat, IntKind.u32.wrap z = (x : Int) ∧ x < 4294967296 := by
  have h := IntKind.wrap_u32 z
  exact ⟨(IntKind.u32.wrap z).toNat, by omega, by omega⟩
theorem tape_word (g : Nat) (w : World) (hT : TapeAt w g) :
    Calls Try.prog 28 #[.pointer (some ⟨g, 0, none⟩)] w (WordOut g w) := by
  go_enter Try.func28, Try.ntmps28
  go_wp2_with fail
  refine (next_any g 1048576 _ hT (by unfold I64; omega)).mono ?_
  rintro e w1 ⟨r, rfl, hr0, hr1, hm1⟩
  go_wp2_with fail
  refine (next_any g 4096 _ hm1.tape (by unfold I64; omega)).mono ?_
  rintro e w2 ⟨s, rfl, hs0, hs1, hm2⟩
  go_wp2_with fail
  refine (next_any g 5 _ hm2.tape (by unfold I64; omega)).mono ?_
  rintro e w3 ⟨t, rfl, ht0, ht1, hm3⟩
  go_wp2_with fail
  go_ret
  exact ⟨((r * (1 + s) % 4294967296 + t) % 4294967296).toNat, by refine congrArg (fun b => Ending.returned (Value.int .u32 b)) ?_; omega, by omega, (hm1.trans hm2).trans hm3⟩
end Go.Proofs.Ytnchgmemajmkjaa
namespace Go.Proofs.Ytnchgmemajmkjaa
open Go.RowKit
set_option linter.unusedVariables false
set_option linter.unusedSimpArgs false
set_option maxRecDepth 20000

theorem Moves.set {g k i : Nat} {w a : World} (h : Moves g w a) (hg : g < k) (hk : w.heap.size ≤ k) (v : Value) : Moves g w (a.setCell ⟨k, i, none⟩ v) :=
  ⟨Below.setCell h.below (p := ⟨k, i, none⟩) (Nat.le_of_lt hg) v, fun j hj hne => (Below.heap_setCell _ _ _ _ (by simp only; omega)).trans (h.other j hj hne),
    h.tape.keep (Below.setCell (Below.refl g a) (p := ⟨k, i, none⟩) (Nat.le_of_lt hg) v) (Below.heap_setCell _ _ _ _ (by simp only; omega))⟩
/-- A tuple that may be written. -/
def TupleOut (g : Nat) (w : World) (e : Ending) (w' : World) : Prop := ∃ t : Tup, e = .returned (.agg t.cells.toArray) ∧ t.In ∧ t.ok = true ∧ Moves g w w'
set_option maxHeartbeats 1000000 in
theorem tape_tuple (g : Nat) (w : World) (hT : TapeAt w g) :
    Calls Try.prog 25 #[.pointer (some ⟨g, 0, none⟩)] w (TupleOut g w) := by
  have hg := hT.lt
  go_enter Try.func25, Try.ntmps25
  have hb0 := (Below.refl w.heap.size w).alloc (Nat.le_refl _) (.cells #[.int .u32 0, .int .u64 0, .int .i64 0] 57)
  have B0 : Blk (w.alloc (.cells #[.int .u32 0, .int .u64 0, .int .i64 0] 57)) w.heap.size 57 #[.int .u32 0, .int .u64 0, .int .i64 0] := Blk.new _ _ _
  have M0 := Moves.of hT hb0
  have hI9 : I64 9 := by unfold I64; omega
  have hI2 : I64 2000 := by unfold I64; omega
  have hI3 : I64 3 := by unfold I64; omega
  have hI1 : I64 120 := by unfold I64; omega
  clear hb0
  go_wp2_with fail
  generalize w.alloc (.cells #[.int .u32 0, .int .u64 0, .int .i64 0] 57) = W0 at *
  ((with_reducible refine (next_any g 9 _ M0.tape hI9).mono ?_); rintro e w1 ⟨r1, rfl, hr0, hr1, hm1⟩)
  have M1 := M0.trans hm1
  have B1 := (hm1.other _ B0.lt (by omega)).trans B0
  obtain ⟨r1, rfl⟩ : ∃ k : Nat, r1 = k := ⟨r1.toNat, by omega⟩
  clear M0 B0 hm1
  go_wp2_with fail
  ((with_reducible refine (next_any g 2000 _ M1.tape hI2).mono ?_); rintro e w2 ⟨r2, rfl, hq0, hq1, hm2⟩)
  have M2 := M1.trans hm2
  have hl1 : w.heap.size < w1.heap.size := (Array.getElem?_eq_some_iff.1 B1).1
  have B2 := (hm2.other _ hl1 (by omega)).trans B1
  have hl2 : w.heap.size < w2.heap.size := (Array.getElem?_eq_some_iff.1 B2).1
  obtain ⟨r2, rfl⟩ : ∃ k : Nat, r2 = k := ⟨r2.toNat, by omega⟩
  clear M1 B1 hm2 hl1
  go_wp2_with fail
  have hb2 := (Below.refl w2.heap.size w2).alloc (Nat.le_refl _) (.cells #[.int .i64 1, .int .i64 100, .int .i64 8000] 3)
  have L2 : Blk (w2.alloc (.cells #[.int .i64 1, .int .i64 100, .int .i64 8000] 3)) w2.heap.size 3 #[.int .i64 1, .int .i64 100, .int .i64 8000] := Blk.new _ _ _
  have M3 := M2.trans (Moves.of M2.tape hb2)
  have B3 := Blk.alloc B2 (.cells #[.int .i64 1, .int .i64 100, .int .i64 8000] 3)
  have hgl : w2.heap.size ≠ g := by have := M2.tape.lt; omega
  clear hb2 M2 B2
  generalize hL : w2.heap.size = L at *
  have HL := Lib.hid hL
  clear hL
  generalize w2.alloc (.cells #[.int .i64 1, .int .i64 100, .int .i64 8000] 3) = W3 at *
  ((with_reducible refine (next_any g 3 _ M3.tape hI3).mono ?_); rintro e w4 ⟨r3, rfl, hs0, hs1, hm3⟩)
  have M4 := M3.trans hm3
  have B4 := (hm3.other _ (Blk.lt B3) (by omega)).trans B3
  have L4 := (hm3.other _ (Blk.lt L2) hgl).trans L2
  obtain ⟨r3, rfl⟩ : ∃ k : Nat, r3 = k := ⟨r3.toNat, by omega⟩
  obtain ⟨f, hf, hcell⟩ : ∃ f : Nat, f ≤ 8000 ∧ w4.cell? ⟨L, r3, none⟩ = some (.int .i64 (f : Int)) := by
    have hc := Blk.cell L4 r3
    have : r3 = 0 ∨ r3 = 1 ∨ r3 = 2 := by omega
    rcases this with rfl | rfl | rfl
    · exact ⟨1, by omega, hc.trans rfl⟩
    · exact ⟨100, by omega, hc.trans rfl⟩
    · exact ⟨8000, by omega, hc.trans rfl⟩
  have h3i : (r3 : Int) < 3 := by omega
  have h3n : r3 < 3 := by omega
  have hmul : ∃ p : Nat, p < 18446744073709551616 ∧ IntKind.u64.wrap ((1 + (r2 : Int)) * (f : Int)) = (p : Int) := by
    refine ⟨(1 + r2) * f, ?_, ?_⟩
    · have : (1 + r2) * f ≤ 2001 * 8000 := Nat.mul_le_mul (by omega) hf
      omega
    · have h1 : (1 + r2) * f ≤ 2001 * 8000 := Nat.mul_le_mul (by omega) hf
      have h2 : (1 + (r2 : Int)) * (f : Int) = (((1 + r2) * f : Nat) : Int) := by push_cast; rfl
      rw [h2, IntKind.wrap_u64]
      omega
  obtain ⟨p, hp, hpe⟩ := hmul
  have hdown := fun W => ref_down_s p 17 W hp (by omega)
  rw [dnR_in hp (by omega)] at hdown
  have hdl : dnN p (17 : Int).toNat < 18446744073709551616 := Nat.lt_of_le_of_lt (dnN_le _ _) hp
  have hda := dnN_again p 17
  have ht17 : (17 : Int).toNat = 17 := rfl
  rw [ht17] at hdown hdl
  generalize dnN p 17 = d at hdown hdl hda
  clear M3 B3 hm3 L2 L4 hgl ht17
  go_wp2_with fail
  ((with_reducible refine (hdown w4).mono ?_); rintro e w5 ⟨rfl, rfl⟩)
  clear hdown hpe hp hcell hf
  go_wp2_with fail
  ((with_reducible refine (next_any g 120 _ M4.tape hI1).mono ?_); rintro e w6 ⟨r6, rfl, ht0, ht1, hm6⟩)
  have M6 := M4.trans hm6
  have B6 := (hm6.other _ (Blk.lt B4) (by omega)).trans B4
  obtain ⟨r6, rfl⟩ : ∃ k : Nat, r6 = k := ⟨r6.toNat, by omega⟩
  have y0 := Blk.cell B6 0
  have y1 := Blk.cell B6 1
  have y2 := Blk.cell B6 2
  have f0 := Blk.frozen B6 0
  have f1 := Blk.frozen B6 1
  have f2 := Blk.frozen B6 2
  simp only [List.getElem?_toArray, List.getElem?_cons_succ, List.getElem?_cons_zero] at y0 y1 y2
  clear M4 B4 hm6
  go_wp2_with fail
  have M7 := ((M6.set (i := 0) hg (Nat.le_refl _) (.int .u32 (r1 : Int))).set (i := 1) hg (Nat.le_refl _) (.int .u64 (d : Int))).set (i := 2) hg (Nat.le_refl _) (.int .i64 (r6 : Int))
  have B7 := ((Blk.set_ B6 0 (.int .u32 (r1 : Int))).set_ 1 (.int .u64 (d : Int))).set_ 2 (.int .i64 (r6 : Int))
  generalize ((w6.setCell ⟨w.heap.size, 0, none⟩ (.int .u32 (r1 : Int))).setCell ⟨w.heap.size, 1, none⟩ (.int .u64 (d : Int))).setCell ⟨w.heap.size, 2, none⟩ (.int .i64 (r6 : Int)) = W7 at *
  have k0 : W7.cell? ⟨w.heap.size, 0, none⟩ = some (.int .u32 (r1 : Int)) := (B7.cell 0).trans rfl
  have k1 : W7.cell? ⟨w.heap.size, 1, none⟩ = some (.int .u64 (d : Int)) := (B7.cell 1).trans rfl
  have k2 : W7.cell? ⟨w.heap.size, 2, none⟩ = some (.int .i64 (r6 : Int)) := (B7.cell 2).trans rfl
  refine bodyPost_ret (by simp [results, Try.results25, go_sem, k0, k1, k2]; try rfl) rfl ?_
  refine ⟨⟨r1, d, r6⟩, rfl, ⟨by simp only; omega, hdl, by unfold I64; simp only; omega⟩, ?_, M7⟩
  unfold Tup.ok
  simp [hda]
  omega
end Go.Proofs.Ytnchgmemajmkjaa
namespace Go.Proofs.Ytnchgmemajmkjaa
open Go.RowKit
set_option linter.unusedVariables false
set_option linter.unusedSimpArgs false
set_option maxRecDepth 20000

theorem ref_pad_own (A : Option Addr) (n c : Nat) (l : List UInt8) (w : World) (h : R8 w w.heap.size A n c l) (hn : n ≤ 140737488351232) (t : Int) :
    Calls Try.prog 30 #[.slice A n c, .int .i64 t] w (OwnOut w (l ++ List.replicate (padN n t) 0)) := by
  have hl := h.1
  subst hl
  have hbb : ([] : List UInt8).length + l.length ≤ 140737488355328 := by simp; omega
  by_cases h1 : 1 ≤ t
  · by_cases h2 : t ≤ 64
    · obtain ⟨k, rfl⟩ := Int.eq_ofNat_of_zero_le (show 0 ≤ t by omega)
      have g1 : decide ((1 : Int) ≤ (k : Int)) = true := by simp; omega
      have g2 : decide ((k : Int) ≤ 64) = true := by simp; omega
      have HP := Lib.hid (pad_lt l.length k · (by omega) (by omega))
      have HE := Lib.hid (pad_eq l.length k (by omega) (by omega))
      have hp64 := padN_lt l.length k
      generalize padN l.length k = p at HP HE hp64 ⊢
      go_enter Try.func30, Try.ntmps30
      go_wp2_with (at_builtin; with_reducible refine wpList_append8 rfl (.tmp 6) (.tmp 7) rfl rfl w.heap.size _ [] rfl (Own8.empty _ _ (Nat.le_refl _)) w.heap.size A l.length c l rfl (h.alloc (Nat.le_refl _) _) hbb (by simp) ?_; intro v1 w1 ha1)
      have hb1 := ha1.below ((Below.refl _ _).alloc (Nat.le_refl _) _) (by simp) (Own8.empty _ _ (Nat.le_refl _)) (Nat.le_refl _)
      have ho1 := ha1.1
      clear ha1 h
      go_loopw [5] (fun v wr => ∃ q : Nat, q ≤ p ∧ Own8 wr w.heap.size v (l ++ List.replicate q 0) ∧ Below w.heap.size w wr) (fun v _ => p - (lenOf v - l.length))
      case atStart => exact ⟨0, Nat.zero_le _, by simpa using ho1, hb1⟩
      case round =>
        obtain ⟨q, hq, hor, hbr⟩ := hrel
        obtain ⟨A2, c2, hv2, hr2⟩ := hor.r8
        rw [show (l ++ List.replicate q (0 : UInt8)).length = l.length + q by simp] at hv2
        subst hv2
        have hsz := hbr.size
        by_cases hlt : q < p
        · have hlb := Lib.hid (show (l ++ List.replicate q (0 : UInt8)).length + 1 ≤ 140737488355328 by simp; omega)
          have hrow := Lib.hid (show (l ++ List.replicate q (0 : UInt8)) ++ [0] = l ++ List.replicate (q + 1) 0 by
            rw [List.append_assoc, ← List.replicate_succ'])
          have g3 : (((l.length : Int) + (q : Int)) % (k : Int) != 0) = true := by
            have := HP.out q hlt
            rw [imod, bne_iff_ne]
            omega
          go_wp2_with (at_builtin; with_reducible refine wpList_append8 rfl (.tmp 22) (.tmp 23) rfl rfl w.heap.size _ _ rfl (hor.alloc _) (wr.heap.size + 1) _ 1 1 [0] rfl (one_r8 _ _ _ rfl) hlb.out (le_alloc hsz _) ?_; intro v2 w2 ha2)
          have hb2 := ha2.below (hbr.alloc hsz _) (le_alloc hsz _) (hor.alloc _) (Nat.le_refl _)
          have ho2 := ha2.1
          rw [hrow.out] at ho2
          have hL := Lib.hid (show lenOf v2 = l.length + (q + 1) by
            obtain ⟨A3, c3, hv3, hr3⟩ := ho2.r8
            rw [hv3]; simp [lenOf])
          go_roundw
          case rel => exact ⟨q + 1, by omega, ho2, hb2⟩
          case measure => rw [hL.out]; simp [lenOf]; omega
        · obtain rfl : q = p := by omega
          have g3 : (((l.length : Int) + (q : Int)) % (k : Int) != 0) = false := by
            have := HE.out
            rw [imod, this]
            rfl
          go_wp2
          go_ret
          exact ⟨_, rfl, hor, hbr⟩
    · have hp : padN l.length t = 0 := by simp [padN]; omega
      rw [hp, List.replicate_zero, List.append_nil]
      have g1 : decide ((1 : Int) ≤ t) = true := by simp; omega
      have g2 : decide (t ≤ 64) = false := by simp; omega
      clear hp
      go_enter Try.func30, Try.ntmps30
      go_wp2_with (at_builtin; with_reducible refine wpList_append8 rfl (.tmp 6) (.tmp 7) rfl rfl w.heap.size _ [] rfl (Own8.empty _ _ (Nat.le_refl _)) w.heap.size A l.length c l rfl (h.alloc (Nat.le_refl _) _) hbb (by simp) ?_; intro v1 w1 ha1)
      have hb1 := ha1.below ((Below.refl _ _).alloc (Nat.le_refl _) _) (by simp) (Own8.empty _ _ (Nat.le_refl _)) (Nat.le_refl _)
      have ho1 := ha1.1
      clear ha1 h
      go_loopw [5] (fun v wr => v = v1 ∧ wr = w1) (fun _ _ => 0)
      case atStart => exact ⟨rfl, rfl⟩
      case round =>
        obtain ⟨rfl, rfl⟩ := hrel
        go_wp2
        go_ret
        exact ⟨_, rfl, ho1, hb1⟩
  · have hp : padN l.length t = 0 := by simp [padN]; omega
    rw [hp, List.replicate_zero, List.append_nil]
    have g1 : decide ((1 : Int) ≤ t) = false := by simp; omega
    clear hp
    go_enter Try.func30, Try.ntmps30
    go_wp2_with (at_builtin; with_reducible refine wpList_append8 rfl (.tmp 6) (.tmp 7) rfl rfl w.heap.size _ [] rfl (Own8.empty _ _ (Nat.le_refl _)) w.heap.size A l.length c l rfl (h.alloc (Nat.le_refl _) _) hbb (by simp) ?_; intro v1 w1 ha1)
    have hb1 := ha1.below ((Below.refl _ _).alloc (Nat.le_refl _) _) (by simp) (Own8.empty _ _ (Nat.le_refl _)) (Nat.le_refl _)
    have ho1 := ha1.1
    clear ha1 h
    go_loopw [5] (fun v wr => v = v1 ∧ wr = w1) (fun _ _ => 0)
    case atStart => exact ⟨rfl, rfl⟩
    case round =>
      obtain ⟨rfl, rfl⟩ := hrel
      go_wp2
      go_ret
      exact ⟨_, rfl, ho1, hb1⟩
theorem ref_pad_any (A : Option Addr) (n c : Nat) (l : List UInt8) (w : World) (h : R8 w w.heap.size A n c l) (hn : n ≤ 140737488351232) (t : Int) :
    Calls Try.prog 30 #[.slice A n c, .int .i64 t] w (Out8 w (l ++ List.replicate (padN n t) 0)) := by
  refine (ref_pad_own A n c l w h hn t).mono ?_
  rintro e w' ⟨v, rfl, ho, hb⟩
  obtain ⟨A', c', rfl, hr⟩ := ho.r8
  exact ⟨A', _, c', rfl, hr, hb⟩
section
variable (A : Option Addr) (n c : Nat) (l : List UInt8) (w : World)
theorem ref_pad_all (h : R8 w w.heap.size A n c l) (hn : n ≤ 140737488351232) (k : Int) :
    Calls Try.prog 30 #[.slice A n c, .int .i64 k] w (Out8 w (padL l k)) := by
  have hl := h.1
  subst hl
  exact ref_pad_any A _ c l w h hn k
end
end Go.Proofs.Ytnchgmemajmkjaa
