/- CtlBack's walk. -/
import Derived.Test.YtgjncaobcgjefaaNk
namespace Go.Proofs.Ytgjncaobcgjefaa.RP
open Go.RowKit
set_option linter.unusedVariables false
set_option linter.unusedSimpArgs false
set_option maxRecDepth 20000

set_option maxHeartbeats 8000000 in
theorem ctlBack_walk (A : Option Addr) (n c : Nat) (cut : Int) (more : Int) (w : World) (h : RI w w.heap.size A n c) (hn : n ≤ 281474976710656) (hcut : I64 cut) (hmore : (Lit.int .u8 more).wf = true) :
    Calls Try.prog 3 #[.slice A n c, .int .i64 cut, .int .u8 more] w (Yes w) := by
  have hT := tape_at8 h hn
  have b0 : Below w.heap.size w (w.alloc (.cells #[.slice A n c, .int .i64 0] 28)) := below_alloc w _
  obtain ⟨mo, hmo, rfl⟩ : ∃ m : UInt8, True ∧ more = (m.toNat : Int) := by
    have h0 : 0 ≤ more ∧ more ≤ 255 := by simpa [Lit.wf, IntKind.min, IntKind.max, IntKind.signed, IntKind.bits] using hmore
    refine ⟨UInt8.ofNat more.toNat, trivial, ?_⟩
    rw [UInt8.toNat_ofNat']
    omega
  clear h hmore hmo
  go_enter Try.func3, Try.ntmps3
  go_wp2_with fail
  refine (tape_ctl _ _ hT).mono ?_
  rintro e w1 ⟨x, Ax, cx, rfl, ok, hX, hx3, hm, hxa⟩
  have b1 := b0.trans hm.below
  clear hT b0 hm hxa
  have hsm := ctl_small ok
  have HB := Lib.hid fun (W : World) (hb : Below w1.heap.size w1 W) => bytes_yes x ok Ax cx W (hX.layers.on hb)
  have HS := Lib.hid fun (W : World) (hb : Below w1.heap.size w1 W) (A' : Option Addr) (c' : Nat) (hY : IsC W W.heap.size x A' c') => ref8_same_yes x Ax A' cx c' W (hX.on hb) hY (by omega)
  have HR := Lib.hid fun (W : World) (A : Option Addr) (n c : Nat) (hr : R8 W W.heap.size A n c x.bytes) (hn : n ≤ 140737488355328) => read_x ok hX.layers.2.1 A n c W hr hn
  have HC := Lib.hid fun (k : Nat) (hk : k < x.bytes.length) => rd_cut ok hk
  have HM := Lib.hid fun (m : UInt8) => rd_more ok m
  unfold RdX at HR
  generalize x.bytes = BX at HB HR HC HM hsm
  clear hX hx3 ok
  obtain ⟨k, p, l, e, ht, s, y, d⟩ := x
  simp only [Ctl.val] at HB HS HR ⊢
  generalize l.length = m at HB HS HR ⊢
  have bx := below_alloc w1 (.cells #[.int .i64 k, .int .i64 p, .slice Ax m cx, .int .i64 e, .int .i64 ht, .int .i64 s, .int .i64 y, .int .i64 d] 25)
  have hP := Blk.new w1 25 #[.int .i64 k, .int .i64 p, .slice Ax m cx, .int .i64 e, .int .i64 ht, .int .i64 s, .int .i64 y, .int .i64 d]
  have hBc := HB.out _ bx
  go_wp2_with fail
  generalize w1.alloc (.cells #[.int .i64 k, .int .i64 p, .slice Ax m cx, .int .i64 e, .int .i64 ht, .int .i64 s, .int .i64 y, .int .i64 d] 25) = W2 at bx hP hBc ⊢
  refine hBc.mono ?_
  rintro e' W3 ⟨v3, rfl, o3, b3⟩
  obtain ⟨A3, c3, rfl, r3, f3⟩ := o3.r8n
  have hP := hP.below b3 hP.lt
  have by3 := bx.trans (b3.mono bx.size)
  obtain ⟨nB, hnB⟩ : ∃ q, q = BX.length := ⟨_, rfl⟩
  rw [← hnB] at hsm r3 o3 ⊢
  have HNB := Lib.hid hnB
  have hsz3 : W2.heap.size ≤ W3.heap.size := b3.size
  clear hnB hBc HB b3 f3
  go_wp2_with fail
  refine (HR.out W3 A3 nB c3 r3 (by omega)).mono ?_
  rintro e' W4 ⟨A4, c4, rfl, hY, b4⟩
  have r4 := r3.on b4
  have o4 := o3.kept8 b4
  have hP4 := hP.below b4 hP.lt
  have by4 := by3.trans (b4.mono by3.size)
  clear b4 o3 r3 hP by3
  have bd := below_alloc W4 (.cells #[.int .i64 k, .int .i64 p, .slice A4 m c4, .int .i64 e, .int .i64 ht, .int .i64 s, .int .i64 y, .int .i64 d] 25)
  have hD := Blk.new W4 25 #[.int .i64 k, .int .i64 p, .slice A4 m c4, .int .i64 e, .int .i64 ht, .int .i64 s, .int .i64 y, .int .i64 d]
  have hP5 := hP4.below bd hP4.lt
  have r5 := r4.on bd
  have o5 := o4.kept8 bd
  have by5 := by4.trans (bd.mono by4.size)
  have hSm := HS.out _ by5 A4 c4 (hY.on bd)
  clear bd r4 o4 hP4 by4 hY HS HR
  go_upto_region 4 with (fail)
  generalize W4.alloc (.cells #[.int .i64 k, .int .i64 p, .slice A4 m c4, .int .i64 e, .int .i64 ht, .int .i64 s, .int .i64 y, .int .i64 d] 25) = W5 at hD hP5 r5 o5 by5 hSm ⊢
  obtain ⟨k0, k1, k2, k3, k4, k5, k6, k7⟩ := blk8c hP5
  obtain ⟨d0, d1, d2, d3, d4, d5, d6, d7⟩ := blk8c hD
  have t3 : decide ((nB : Int) < 3) = false := by simp; omega
  have yn : IntKind.i64.wrap ((nB : Int) - 1) = (nB : Int) - 1 := by rw [IntKind.wrap_i64]; omega
  go_wp2_with fail
  refine hSm.mono ?_
  rintro e' W6 ⟨rfl, b6⟩
  have r6 := r5.on b6
  have o6 := o5.kept8 b6
  have by6 := by5.trans (b6.mono by5.size)
  clear b6 r5 o5 by5 hSm hP5 hD k0 k1 k2 k3 k4 k5 k6 k7 d0 d1 d2 d3 d4 d5 d6 d7
  obtain ⟨r, hr0, hr1, _, hW⟩ := within_ex cut 0 ((nB : Int) - 1) hcut (by omega) (by omega) (by omega)
  obtain ⟨q, rfl⟩ : ∃ q : Nat, r = (q : Int) := ⟨r.toNat, by omega⟩
  have hW6 := hW W6
  clear hW
  have hqn : q < nB := by omega
  have hcq := run_cut_hi8 W6 A3 nB c3 q (by have := r6.2.1; omega)
  have hRd := read_e (HC.out q (by rw [← HNB.out]; exact hqn)) A3 q c3 W6 (r6.take_ q (by omega)) (by omega)
  clear HC hr0 hr1
  go_wp2_with fail
  refine hW6.mono ?_
  rintro e' w' ⟨rfl, rfl⟩
  clear hW6
  go_wp2_with fail
  refine hRd.mono ?_
  rintro e' W7 ⟨A7, c7, rfl, b7⟩
  have r7 := r6.on b7
  have o7 := o6.kept8 b7
  have by7 := by6.trans (b7.mono by6.size)
  clear b7 r6 o6 by6 hRd hcq
  have bd := below_alloc W7 (.cells #[.int .i64 0, .int .i64 0, .slice A7 0 c7, .int .i64 0, .int .i64 0, .int .i64 0, .int .i64 0, .int .i64 0] 25)
  have r8 := r7.on bd
  have o8 := o7.kept8 bd
  have by8 := by7.trans (bd.mono by7.size)
  clear bd r7 o7 by7
  go_upto_region 7 with (fail)
  generalize W7.alloc (.cells #[.int .i64 0, .int .i64 0, .slice A7 0 c7, .int .i64 0, .int .i64 0, .int .i64 0, .int .i64 0, .int .i64 0] 25) = W8 at r8 o8 by8 ⊢
  have bm := below_alloc W8 (.cells #[.int .u8 (mo.toNat : Int)] 5)
  have rm := one_r8 W8 mo (mo.toNat : Int) rfl
  have o9 := (o8.kept8 bm).mono8 (b' := w1.heap.size) bx.size
  have by9 := by8.trans (bm.mono by8.size)
  have hHb := Lib.hid (show BX.length + 1 ≤ 140737488355328 by rw [← HNB.out]; omega)
  have hs9 := by9.size
  clear bm r8 o8 by8
  go_wp2_with (at_builtin; ((with_reducible refine wpList_append8 rfl (.tmp 59) (.tmp 61) rfl rfl w1.heap.size _ BX (by with_unfolding_all rfl) o9 _ _ 1 1 [mo] (by with_unfolding_all rfl) rm hHb.out hs9 ?_); intro v9 w9 ha9))
  have bA := ha9.below by9 hs9 o9 (Nat.le_refl _)
  have hS9 := by9.size
  obtain ⟨A9, c9, h9v, r9, _⟩ := ha9.1.r8n
  subst h9v
  rw [List.length_append, List.length_singleton, ← HNB.out] at r9
  rw [List.length_append, List.length_singleton, ← HNB.out]
  have hRd := read_e (HM.out mo) A9 (nB + 1) c9 w9 r9 (by omega)
  clear ha9 o9 by9 rm r9
  go_wp2_with fail
  refine hRd.mono ?_
  rintro e' WA ⟨AA, cA, rfl, bB⟩
  have byA := bA.trans (bB.mono bA.size)
  have byB := byA.trans ((below_alloc WA (.cells #[.int .i64 0, .int .i64 0, .slice AA 0 cA, .int .i64 0, .int .i64 0, .int .i64 0, .int .i64 0, .int .i64 0] 25)).mono byA.size)
  have bFin := b1.trans (byB.mono b1.size)
  clear hRd bB byA byB bA
  go_wp2_with fail
  refine (known8 _).mono ?_
  rintro e' WC ⟨rfl, bC⟩
  have bEnd := bFin.trans (bC.mono bFin.size)
  clear bC bFin
  go_wp2_with fail
  go_ret
  exact ⟨rfl, bEnd⟩
end Go.Proofs.Ytgjncaobcgjefaa.RP
