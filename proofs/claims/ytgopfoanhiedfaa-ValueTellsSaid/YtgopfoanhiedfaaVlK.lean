/- The law's known runs. -/
import Derived.Test.YtgopfoanhiedfaaVlJ
namespace Go.Proofs.Ytgopfoanhiedfaa
open Go.RowKit
set_option linter.unusedVariables false
set_option linter.unusedSimpArgs false
set_option maxRecDepth 20000

theorem i64_of (n : Int) (h : -9000000000000000000 ≤ n ∧ n ≤ 9000000000000000000) : I64 n := by unfold I64; omega
/-- A layer of a string and two ints. -/
theorem layer3_int (A : Option Addr) (c : Nat) (s : ByteArray) (n m : Int) (w : World) (hs : s.size ≤ 140737488355328) (hn : I64 n) (hm : I64 m) (hS : inS n = true)
    (h : RX w w.heap.size A 3 c 1 [.iface 9 (.string s), .iface 3 (.int .i64 n), .iface 3 (.int .i64 m)]) : Calls Try.prog 9 #[.slice A 3 c] w (Ans (.tuple #[(l3 s n m).val, .int .i64 (l3E s n m)]) w) :=
  layer3_yes A c s _ _ n m true true w hs hn hm (int_int n) (int_int m) rfl rfl hS h
def layH : Lay := ⟨⟨#[104]⟩, 1, 720⟩
def layA : Lay := ⟨⟨#[97]⟩, 1, 10⟩
def layB : Lay := ⟨⟨#[98]⟩, 2, 20⟩
theorem layB_in : layB.In := ⟨by decide, by decide, i64_of 20 (by omega)⟩
theorem layA_in : layA.In := ⟨by decide, by decide, i64_of 10 (by omega)⟩
theorem l3_h : l3 ⟨#[104]⟩ 1 720 = layH := by kernel_rfl
theorem l3E_h : l3E ⟨#[104]⟩ 1 720 = 0 := by kernel_rfl
theorem l3_e : l3 ⟨#[]⟩ 1 720 = zL := by kernel_rfl
theorem l3E_e : l3E ⟨#[]⟩ 1 720 = 12 := by kernel_rfl
theorem l3_a : l3 ⟨#[97]⟩ 1 10 = layA := by kernel_rfl
theorem l3E_a : l3E ⟨#[97]⟩ 1 10 = 0 := by kernel_rfl
theorem rgt_b : rgt layB = layB := by kernel_rfl
theorem rgE_b : rgE layB = 0 := by kernel_rfl
theorem items_known {w : World} {A : Option Addr} {c : Nat} (h : RX w w.heap.size A 4 c 1 [.iface 9 (.string ⟨#[97]⟩), .iface 3 (.int .i64 1), .iface 3 (.int .i64 10), .iface 28 layB.val]) :
    Items w A 4 c [⟨3, [layA], 0⟩, ⟨1, [layB], 0⟩] := by
  refine items_str 3 rfl layA_in h (fun W hW => ?_) ?_
  · have := layer3_int A c ⟨#[97]⟩ 1 10 W (by decide) (i64_of 1 (by omega)) (i64_of 10 (by omega)) (by decide) hW
    rwa [l3_a, l3E_a] at this
  · have h3 := h.drop1 3 (by omega)
    have := items_lay (r := []) layB_in h3 (items_nil _ _ _)
    rwa [rgt_b, rgE_b] at this
theorem res_known : resL [] [⟨3, [layA], 0⟩, ⟨1, [layB], 0⟩] = ([layA, layB], 0) := by simp [resL]
theorem layH_val : layH.val = .agg #[.string ⟨#[104]⟩, .int .u32 1, .int .i64 720] := rfl
theorem layB_val : layB.val = .agg #[.string ⟨#[98]⟩, .int .u32 2, .int .i64 20] := rfl
set_option maxHeartbeats 8000000 in
theorem known_any (w : World) : Calls Try.prog 10 #[] w (Yes w) := by
  have c1 := fun (A : Option Addr) (c : Nat) (w : World) => layer3_int A c ⟨#[104]⟩ 1 720 w (by decide) (i64_of 1 (by omega)) (i64_of 720 (by omega)) (by decide)
  have c2 := fun (w : World) => layer_few none 0 0 w (by decide) (by decide)
  have c3 := fun (A : Option Addr) (c : Nat) (w : World) => layer3_int A c ⟨#[]⟩ 1 720 w (by decide) (i64_of 1 (by omega)) (i64_of 720 (by omega)) (by decide)
  have c7 := fun (A : Option Addr) (c : Nat) (w : World) (h : RX w w.heap.size A 4 c 1 [.iface 9 (.string ⟨#[97]⟩), .iface 3 (.int .i64 1), .iface 3 (.int .i64 10), .iface 28 layB.val]) => layers_any A 4 c _ w (by omega) (items_known h)
  rw [l3_h, l3E_h, layH_val] at c1
  rw [l3_e, l3E_e, zL_val] at c3
  rw [zL_val] at c2
  simp only [res_known, layB_val] at c7
  have D1 := Lib.hid c1
  have D2 := Lib.hid c2
  have D3 := Lib.hid c3
  have D7 := Lib.hid c7
  clear c1 c2 c3 c7
  have r1 := rx_lit w w.heap.size 3 20 _ #[.iface 9 (.string ⟨#[104]⟩), .iface 3 (.int .i64 1), .iface 3 (.int .i64 720)] rfl rfl rfl
  have z1 := below_alloc w (.cells #[.iface 9 (.string ⟨#[104]⟩), .iface 3 (.int .i64 1), .iface 3 (.int .i64 720)] 20)
  go_enter Try.func10, Try.ntmps10
  go_wp2_with fail
  refine (D1.out _ _ _ r1).mono ?_
  rintro e w1 ⟨rfl, b1⟩
  have y1 := z1.trans (b1.mono z1.size)
  have gH := Lib.hid ((Blk.new w1 28 #[.string ⟨#[104]⟩, .int .u32 1, .int .i64 720]))
  clear b1 z1 r1
  go_wp2_with fail
  refine (D2.out _).mono ?_
  rintro e w2 ⟨rfl, b2⟩
  have gH2 := Lib.hid ((gH.out.below b2 gH.out.lt))
  have ya := y1.alloc y1.size (.cells #[.string ⟨#[104]⟩, .int .u32 1, .int .i64 720] 28)
  have y2 := ya.trans (b2.mono ya.size)
  clear b2 y1 ya gH
  have r3 := rx_lit (w2.alloc (.cells #[.string ⟨#[]⟩, .int .u32 0, .int .i64 0] 28)) (w2.heap.size + 1) 3 20 _ #[.iface 9 (.string ⟨#[]⟩), .iface 3 (.int .i64 1), .iface 3 (.int .i64 720)] (by simp) rfl rfl
  go_wp2_with fail
  refine (D3.out _ _ _ r3).mono ?_
  rintro e w3 ⟨rfl, b3⟩
  have ya := (below_alloc w2 (.cells #[.string ⟨#[]⟩, .int .u32 0, .int .i64 0] 28)).alloc (by simp) (.cells #[.iface 9 (.string ⟨#[]⟩), .iface 3 (.int .i64 1), .iface 3 (.int .i64 720)] 20)
  have q3 := ya.trans (b3.mono ya.size)
  have gH3 := Lib.hid ((gH2.out.below q3 gH2.out.lt))
  have y3 := y2.trans (q3.mono y2.size)
  clear b3 y2 q3 ya r3 gH2
  have yb := below_alloc w3 (.cells #[.string ⟨#[]⟩, .int .u32 0, .int .i64 0] 28)
  go_wp2_with fail
  refine (int_str ⟨#[228, 184, 150, 97]⟩ (by decide) _).mono ?_
  rintro e w4 ⟨rfl, b4⟩
  rw [show cnt ⟨#[228, 184, 150, 97]⟩ = 2 by decide]
  have q4 := yb.trans (b4.mono yb.size)
  have gH4 := Lib.hid ((gH3.out.below q4 gH3.out.lt))
  have y4 := y3.trans (q4.mono y3.size)
  clear b4 y3 q4 yb gH3
  go_wp2_with fail
  refine (int_no (NoInt.of 40 (.float .f64 4609434218613702656) (by decide)) _).mono ?_
  rintro e w5 ⟨rfl, b5⟩
  have gH5 := Lib.hid ((gH4.out.below b5 gH4.out.lt))
  have y5 := y4.trans (b5.mono y4.size)
  clear b5 y4 gH4
  go_wp2_with fail
  refine (text_err 24 _ (by decide) errno_full _).mono ?_
  rintro e w6 ⟨rfl, b6⟩
  have gH6 := Lib.hid ((gH5.out.below b6 gH5.out.lt))
  have y6 := y5.trans (b6.mono y5.size)
  clear b6 y5 gH5
  have r7 := rx_lit w6 w6.heap.size 4 20 _ #[.iface 9 (.string ⟨#[97]⟩), .iface 3 (.int .i64 1), .iface 3 (.int .i64 10), .iface 28 (.agg #[.string ⟨#[98]⟩, .int .u32 2, .int .i64 20])] rfl rfl rfl
  have yc := below_alloc w6 (.cells #[.iface 9 (.string ⟨#[97]⟩), .iface 3 (.int .i64 1), .iface 3 (.int .i64 10), .iface 28 (.agg #[.string ⟨#[98]⟩, .int .u32 2, .int .i64 20])] 20)
  go_wp2_with fail
  refine (D7.out _ _ _ r7).mono ?_
  rintro e w7 ⟨A7, c7, rfl, r8, b7⟩
  have q7 := yc.trans (b7.mono yc.size)
  have gH7 := gH6.out.below q7 gH6.out.lt
  have y7 := y6.trans (q7.mono y6.size)
  clear b7 y6 q7 yc r7 gH6
  obtain ⟨u, o, rfl, hul, a0, a1, a2⟩ := r8.at (q := 1) (by decide)
  have k0 : w7.cell? ⟨u, o + 3, none⟩ = some (.string ⟨#[98]⟩) := a0
  have kH := (blk3 gH7).1
  have lH := gH7.lt
  clear a0 a1 a2 r8 gH7
  go_wp2_with fail
  refine (must_str ⟨#[120]⟩ (by decide) _).mono ?_
  rintro e w8 ⟨rfl, b8⟩
  have y8 := y7.trans (b8.mono y7.size)
  clear b8 y7 k0 kH
  go_wp2_with fail
  go_ret
  exact ⟨rfl, y8⟩
end Go.Proofs.Ytgopfoanhiedfaa
