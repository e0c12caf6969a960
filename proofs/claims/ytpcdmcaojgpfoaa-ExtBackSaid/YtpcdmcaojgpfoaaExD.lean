/- Contracts: octet.Cut and its book's, where the place is there: what is cut lies in new memory. ext.readHead. -/
import Derived.Test.YtpcdmcaojgpfoaaExA
import Derived.Test.YtpcdmcaojgpfoaaCOctCut
import Derived.Test.YtpcdmcaojgpfoaaCOctGet
import Derived.Test.YtpcdmcaojgpfoaaCRefCut
import Derived.Test.YtpcdmcaojgpfoaaRegP
import Derived.StillTailTactics
import Derived.Deep.CutRange
namespace Go.Proofs.Ytpcdmcaojgpfoaa.RP
open Go.RowKit
set_option linter.unusedVariables false
set_option linter.unusedSimpArgs false
set_option maxRecDepth 20000

/-- Bytes in new memory, beside true. -/
def OutN (w : World) (l : List UInt8) (e : Ending) (w' : World) : Prop :=
  ∃ A c, e = .returned (.tuple #[.slice A l.length c, .bool true]) ∧ R8 w' w'.heap.size A l.length c l ∧ Below w.heap.size w w' ∧ (∀ ad, A = some ad → w.heap.size ≤ ad.block ∧ ad.block < w'.heap.size)
theorem cut_new (A : Option Addr) (n c : Nat) (l : List UInt8) (w : World) (h : R8 w w.heap.size A n c l) (hn : n ≤ 140737488355328) (i k : Nat) (ht : i + k ≤ n) :
    Calls Try.prog 52 #[.slice A n c, .int .i64 i, .int .i64 k] w (OutN w ((l.drop i).take k)) := by
  have hc := h.2.1
  have hi : I64 i := by unfold I64; omega
  have ht' : thB n i k = true := by simp [thB]; omega
  have hcut := fun W => run_cut (P := Try.prog) 26 5 Try.underlying26 u8_size A n c .i64 .i64 i (i + k) (by omega) (by omega) (by omega) W
  have hr := h.cut i (i + k) (by omega) ht
  have e1 : i + k - i = k := by omega
  have e2 : ((i : Int) + (k : Int)).toNat = i + k := by omega
  simp only [e1, e2, Int.toNat_natCast] at hcut hr
  clear e1 e2
  obtain ⟨L, hL⟩ : ∃ L, L = (l.drop i).take k := ⟨_, rfl⟩
  rw [← hL] at hr ⊢
  clear hL h
  go_enter Try.func52, Try.ntmps52
  go_wp2_with (first | (go_at_call 69; refine (there_any _ _ _ _ _ _ hi (by omega)).mono ?_; rintro e w' ⟨rfl, rfl⟩) | (go_at_call 67; refine (longer_zero _ _ _ _ _ hr (by omega)).mono ?_; rintro e w' ⟨g, m, rfl, hm, hg, hgb, hb⟩))
  go_ret2
  unfold Len at hm
  subst hm
  exact ⟨_, _, rfl, hg.r8 rfl (Nat.le_refl _), hb, fun ad e => by injection e with e; subst e; exact ⟨hgb, hg.lt⟩⟩
theorem ref_cut_new (A : Option Addr) (n c : Nat) (l : List UInt8) (w : World) (h : R8 w w.heap.size A n c l) (hn : n ≤ 140737488355328) (i k : Nat) (ht : i + k ≤ n) :
    Calls Try.prog 65 #[.slice A n c, .int .i64 i, .int .i64 k] w (OutN w ((l.drop i).take k)) := by
  have hc := h.2.1
  have g1 : decide ((i : Int) < 0) = false := by simp
  have g2 : decide ((k : Int) < 0) = false := by simp
  have g3 : decide ((n : Int) < (i : Int)) = false := by simp; omega
  have g4 : decide ((n : Int) - (i : Int) < (k : Int)) = false := by simp; omega
  have hcut := fun W => run_cut (P := Try.prog) 26 5 Try.underlying26 u8_size A n c .i64 .i64 i (i + k) (by omega) (by omega) (by omega) W
  have hr := h.cut i (i + k) (by omega) ht
  have e1 : i + k - i = k := by omega
  have e2 : ((i : Int) + (k : Int)).toNat = i + k := by omega
  simp only [e1, e2, Int.toNat_natCast] at hcut hr
  clear e1 e2
  obtain ⟨L, hL⟩ : ∃ L, L = (l.drop i).take k := ⟨_, rfl⟩
  rw [← hL] at hr ⊢
  clear hL h
  have hbb : ([] : List UInt8).length + k ≤ 140737488355328 := by simp; omega
  go_enter Try.func65, Try.ntmps65
  go_wp2_with (at_builtin; with_reducible refine wpList_append8 rfl (.tmp 28) (.tmp 34) rfl rfl w.heap.size _ [] rfl (Own8.empty _ _ (Nat.le_refl _)) w.heap.size _ k _ L rfl (hr.alloc (Nat.le_refl _) _) hbb (by simp) ?_; intro v1 w1 ha1)
  go_ret2
  have hb1 := ha1.below ((Below.refl _ _).alloc (Nat.le_refl _) _) (by simp) (Own8.empty _ _ (Nat.le_refl _)) (Nat.le_refl _)
  have ho := ha1.1
  rw [List.nil_append] at ho
  obtain ⟨A1, c1, hv1, hr1⟩ := ho.r8
  subst hv1
  exact ⟨A1, c1, rfl, hr1, hb1, own_block ho⟩
theorem num_one (l : List UInt8) (i : Nat) (h : i < l.length) : num ((l.drop i).take 1) = bt l i := by
  obtain ⟨c, hc, e⟩ := bt_drop h
  rw [e, ← hc]
  simp [num]
/-- readHead: ID, where its bytes begin, how many. -/
def HdOut (w : World) (id a n : Int) (b : Bool) (e : Ending) (w' : World) : Prop := e = .returned (.tuple #[.agg #[.int .i64 id, .int .i64 a, .int .i64 n], .bool b]) ∧ Below w.heap.size w w'
set_option maxHeartbeats 1000000 in
theorem hd_two (A : Option Addr) (n c : Nat) (l : List UInt8) (w : World) (h : R8 w w.heap.size A n c l) (hn : n ≤ 140737488355328) (i : Nat) (hi : i + 1 < n) :
    Calls Try.prog 51 #[.int .u16 4096, .slice A n c, .int .i64 i] w (HdOut w (bt l i : Nat) (i + 2 : Nat) (bt l (i + 1) : Nat) true) := by
  have hl := h.1
  have hbt := bt_lt l i
  have hbt1 := bt_lt l (i + 1)
  have hb : Below w.heap.size w (w.alloc (.cells #[.int .i64 0, .int .i64 0, .int .i64 0] 81)) := (Below.refl _ w).alloc (Nat.le_refl _) _
  have hg := fun (x : Int) (hx : x = (i + 1 : Nat)) => hx ▸ get_yes A n c l _ (h.on hb) hn (i + 1) 1 (by omega) (by omega) (by omega)
  have hg := hg ((i : Int) + 1) (by omega)
  have hnum := num_one l (i + 1) (by omega)
  rw [hnum] at hg
  obtain ⟨b, off, rfl, hlt, hc⟩ := h.2.2 (by omega)
  have c0 : w.cell? ⟨b, off + i, none⟩ = some (.int .u8 (bt l i : Int)) := hc i (by omega)
  have g0 : (i : Int) < (n : Int) := by omega
  clear hc h hl hnum
  generalize bt l i = X at c0 hbt ⊢
  generalize bt l (i + 1) = Y at hg hbt1 ⊢
  have u0 : IntKind.i64.wrap (X : Int) = X := by rw [IntKind.wrap_i64]; omega
  go_enter Try.func51, Try.ntmps51
  go_wp2_with fail
  refine hg.mono ?_
  rintro e w' ⟨rfl, rfl⟩
  go_wp2_with fail
  refine bodyPost_ret (by simp [results, Try.results51, go_sem]; try rfl) rfl ?_
  exact ⟨by rw [show ((i + 2 : Nat) : Int) = (i : Int) + 2 by omega], by go_grown⟩
theorem hd_two_no (A : Option Addr) (n c : Nat) (l : List UInt8) (w : World) (h : R8 w w.heap.size A n c l) (hn : n ≤ 140737488355328) (i : Nat) (hi : n ≤ i + 1) (hi' : i < n) :
    Calls Try.prog 51 #[.int .u16 4096, .slice A n c, .int .i64 i] w (HdOut w 0 0 0 false) := by
  have hg := fun W => get_no A n c W hn ((i : Int) + 1) 1 (by unfold I64; omega) (.inr (by simp [thB]; omega))
  go_enter Try.func51, Try.ntmps51
  go_wp2_with fail
  refine (hg _).mono ?_
  rintro e w' ⟨rfl, rfl⟩
  go_wp2_with fail
  refine bodyPost_ret (by simp [results, Try.results51, go_sem]; try rfl) rfl ?_
  exact ⟨rfl, by go_grown⟩
set_option maxHeartbeats 1000000 in
theorem hd_one (A : Option Addr) (n c : Nat) (l : List UInt8) (w : World) (h : R8 w w.heap.size A n c l) (hn : n ≤ 140737488355328) (i : Nat) (hi : i < n) :
    Calls Try.prog 51 #[.int .u16 48862, .slice A n c, .int .i64 i] w (HdOut w (bt l i / 16 : Nat) (i + 1 : Nat) (bt l i % 16 + 1 : Nat) true) := by
  have hl := h.1
  have hbt := bt_lt l i
  obtain ⟨b, off, rfl, hlt, hc⟩ := h.2.2 (by omega)
  have c0 : w.cell? ⟨b, off + i, none⟩ = some (.int .u8 (bt l i : Int)) := hc i (by omega)
  have g0 : (i : Int) < (n : Int) := by omega
  have e2 := andF (bt l i) hbt
  clear hc h hl
  generalize bt l i = X at c0 hbt e2 ⊢
  obtain ⟨Y, hY⟩ : ∃ Y, X % 16 = Y := ⟨_, rfl⟩
  have hY9 : Y < 16 := by omega
  rw [hY] at e2 ⊢
  clear hY
  obtain ⟨Z, hZ⟩ : ∃ Z, X / 16 = Z := ⟨_, rfl⟩
  have hZ9 : Z < 16 := by omega
  rw [hZ]
  have e3 : (X : Int) / 16 = Z := by omega
  have u0 : IntKind.i64.wrap (Z : Int) = Z := by rw [IntKind.wrap_i64]; omega
  have u1 : IntKind.i64.wrap (Y : Int) = Y := by rw [IntKind.wrap_i64]; omega
  have u2 : IntKind.i64.wrap ((Y : Int) + 1) = (Y : Int) + 1 := by rw [IntKind.wrap_i64]; omega
  have u3 : IntKind.i64.wrap ((i : Int) + 1) = (i : Int) + 1 := by rw [IntKind.wrap_i64]; omega
  go_enter Try.func51, Try.ntmps51
  go_upto_region 2 with (fail)
  have hZ : Blk (w.alloc (.cells #[.int .i64 0, .int .i64 0, .int .i64 0] 81)) w.heap.size 81 #[.int .i64 0, .int .i64 0, .int .i64 0] := Blk.new _ _ _
  have hb : Below w.heap.size w (w.alloc (.cells #[.int .i64 0, .int .i64 0, .int .i64 0] 81)) := (Below.refl _ w).alloc (Nat.le_refl _) _
  revert hZ hb
  generalize w.alloc (.cells #[.int .i64 0, .int .i64 0, .int .i64 0] 81) = W
  intro hZ hb
  have c1 : W.cell? ⟨b, off + i, none⟩ = some (.int .u8 (X : Int)) := (hb.cell (p := ⟨b, off + i, none⟩) hlt).trans c0
  have bb : Below w.heap.size w W.drew := hb.drew
  have hZ : Blk W.drew w.heap.size 81 #[.int .i64 0, .int .i64 0, .int .i64 0] := hZ
  clear c0 hb
  go_still_tail 16, (by kernel_rfl)
  change wpList _ _ _ _ _ W.drew
  generalize W.drew = V at hZ bb
  have k0 := hZ.cell 0
  have k1 := hZ.cell 1
  have k2 := hZ.cell 2
  have z0 := hZ.frozen 0
  have z1 := hZ.frozen 1
  have z2 := hZ.frozen 2
  go_wp2_with fail
  have hF : Blk (((V.setCell ⟨w.heap.size, 0, none⟩ (.int .i64 (Z : Int))).setCell ⟨w.heap.size, 1, none⟩ (.int .i64 ((i : Int) + 1))).setCell ⟨w.heap.size, 2, none⟩ (.int .i64 ((Y : Int) + 1))) w.heap.size 81 #[.int .i64 (Z : Int), .int .i64 ((i : Int) + 1), .int .i64 ((Y : Int) + 1)] := by
    have := ((hZ.set_ 0 (.int .i64 (Z : Int))).set_ 1 (.int .i64 ((i : Int) + 1))).set_ 2 (.int .i64 ((Y : Int) + 1))
    simpa only [List.setIfInBounds_toArray, List.set_cons_succ, List.set_cons_zero] using this
  have hG : Below w.heap.size w (((V.setCell ⟨w.heap.size, 0, none⟩ (.int .i64 (Z : Int))).setCell ⟨w.heap.size, 1, none⟩ (.int .i64 ((i : Int) + 1))).setCell ⟨w.heap.size, 2, none⟩ (.int .i64 ((Y : Int) + 1))) :=
    ((bb.setCell (p := ⟨w.heap.size, 0, none⟩) (Nat.le_refl _) _).setCell (p := ⟨w.heap.size, 1, none⟩) (Nat.le_refl _) _).setCell (p := ⟨w.heap.size, 2, none⟩) (Nat.le_refl _) _
  revert hF hG
  generalize ((V.setCell ⟨w.heap.size, 0, none⟩ (.int .i64 (Z : Int))).setCell ⟨w.heap.size, 1, none⟩ (.int .i64 ((i : Int) + 1))).setCell ⟨w.heap.size, 2, none⟩ (.int .i64 ((Y : Int) + 1)) = WF
  intro hF hG
  have j0 := hF.cell 0
  have j1 := hF.cell 1
  have j2 := hF.cell 2
  simp at j0 j1 j2
  clear k0 k1 k2
  refine bodyPost_ret (by simp [results, Try.results51, go_sem, j0, j1, j2]; try rfl) rfl ?_
  exact ⟨by rw [show ((i + 1 : Nat) : Int) = (i : Int) + 1 by omega, show ((Y + 1 : Nat) : Int) = (Y : Int) + 1 by omega], hG⟩
end Go.Proofs.Ytpcdmcaojgpfoaa.RP
