/- ClockOrder's walk. -/
import Derived.Test.YtjlafpnlkdbkfaaCkK
import Derived.Test.YtjlafpnlkdbkfaaCkQ
namespace Go.Proofs.Ytjlafpnlkdbkfaa
open Go.RowKit
set_option linter.unusedVariables false
set_option linter.unusedSimpArgs false
set_option maxRecDepth 20000

/-- A mask of a number. -/
theorem bits_and_le (n : Int) (m : Nat) (hm : m < 9223372036854775808) : ∃ k : Nat, bits .and .i64 n (m : Int) = (k : Int) ∧ k ≤ m := by
  have e : (BitVec.ofInt 64 (m : Int)).toNat = m := by
    rw [BitVec.toNat_ofInt]
    omega
  have h : (BitVec.ofInt 64 n &&& BitVec.ofInt 64 (m : Int)).toNat ≤ m := by
    rw [BitVec.toNat_and, e]
    exact Nat.and_le_right
  refine ⟨(BitVec.ofInt 64 n &&& BitVec.ofInt 64 (m : Int)).toNat, ?_, h⟩
  show IntKind.i64.wrap ((BitVec.ofInt 64 n &&& BitVec.ofInt 64 (m : Int)).toNat : Int) = _
  rw [IntKind.wrap_i64]
  omega
set_option maxHeartbeats 1000000 in
theorem clockOrder_walk (a b c d : Int) (w : World) (ha : I64 a) (hb : I64 b) (hc : I64 c) (hd : I64 d) :
    Calls Try.prog 5 #[.int .i64 a, .int .i64 b, .int .i64 c, .int .i64 d] w (Yes w) := by
  obtain ⟨x, hx, x1⟩ := bits_and_le a 1099511627775 (by omega)
  obtain ⟨k, hk, k1⟩ := bits_and_le b 1048575 (by omega)
  have hx : bits .and .i64 a 1099511627775 = (x : Int) := hx
  have hk : bits .and .i64 b 1048575 = (k : Int) := hk
  obtain ⟨y, hy, y0, y1⟩ : ∃ y : Nat, wrap64 (1 + (k : Int)) = (y : Int) ∧ 0 < y ∧ y ≤ 1048576 := ⟨k + 1, by rw [wrap_i64 (by unfold I64; omega)]; omega, by omega, by omega⟩
  have HX := Lib.hid hx
  have HK := Lib.hid hk
  have HY := Lib.hid hy
  have yy : wrap64 ((y : Int) + 1) = ((y + 1 : Nat) : Int) := by rw [wrap_i64 (by unfold I64; omega)]; omega
  have YY := Lib.hid yy
  obtain ⟨q, hq⟩ : ∃ q, q = overC x y := ⟨_, rfl⟩
  have q1 := over_mul x y y0
  have q2 := over_le x y y0
  have c1 := Lib.hid (fun W => clock_over x y (by unfold I64; omega) (by unfold I64; omega) W)
  rw [← hq] at q1 q2 c1
  clear hq
  have e1 : IntKind.i64.wrap ((q : Int) * (y : Int)) = ((q * y : Nat) : Int) := by rw [← Int.natCast_mul]; exact i64_nn _ (by omega)
  have e2 : IntKind.i64.wrap ((x : Int) + (y : Int)) = ((x + y : Nat) : Int) := i64_nn _ (by omega)
  have ck := Lib.hid (fun W => known9_any W)
  have G1 := addC_ge a b ha hb
  have c2 := Lib.hid (fun W => clock_add a b ha hb W)
  have c3 := Lib.hid (fun W => clock_add b a hb ha W)
  have c4 := Lib.hid (fun W => clock_mul a b ha hb W)
  have c5 := Lib.hid (fun W => clock_mul b a hb ha W)
  rw [addC_comm b a] at c3
  rw [mulC_comm b a] at c5
  have c6 := Lib.hid (fun W => clock_less a b c d ha hb hc hd W)
  have c7 := Lib.hid (fun W => clock_less c d a b hc hd ha hb W)
  have c8 := Lib.hid (fun W => clock_less a b b a ha hb hb ha W)
  have c9 := Lib.hid (fun W => clock_less x y x ((y + 1 : Nat) : Int) (by unfold I64; omega) (by unfold I64; omega) (by unfold I64; omega) (by unfold I64; omega) W)
  rw [less_more] at c9
  rw [less_comm] at c8
  have L1 := Lib.hid (less_anti a b c d)
  generalize lessC a b c d = s1 at *
  generalize lessC c d a b = s2 at *
  generalize addC a b = E1 at *
  generalize mulC a b = E2 at *
  obtain ⟨m1, hm1⟩ : ∃ m1, m1 = if a < b then b else a := ⟨_, rfl⟩
  have z1 : (if a < b then b else a) = m1 := hm1.symm
  have z2 : (if m1 < 0 then 0 else m1) = max m1 0 := by omega
  have z3 : decide (max m1 0 ≤ (E1 : Int)) = true := by
    have : m1 ≤ (E1 : Int) := by rw [hm1]; split <;> omega
    rw [decide_eq_true_eq]
    omega
  generalize max m1 0 = M at *
  clear G1 hm1
  generalize hP : q * y = P at *
  generalize hS : x + y = S at *
  have p1 : decide ((x : Int) ≤ (P : Int)) = true := by simp; omega
  have p2 : decide ((P : Int) < (S : Int)) = true := by simp; omega
  have p3 : decide (x ≤ P) = true := by simp; omega
  have p4 : decide (P < S) = true := by simp; omega
  clear hx hk hy yy ha hb hc hd q1 q2 x1 k1 y0 y1 hP hS
  go_enter Try.func5, Try.ntmps5
  go_wp2_with fail
  rw [HX.out, HK.out, HY.out]
  refine (c1.out _).mono ?_
  rintro e w' ⟨rfl, rfl⟩
  go_wp2_with fail
  refine (c2.out _).mono ?_
  rintro e w' ⟨rfl, rfl⟩
  go_wp2_with fail
  refine (c2.out _).mono ?_
  rintro e w' ⟨rfl, rfl⟩
  go_wp2_with fail
  refine (c3.out _).mono ?_
  rintro e w' ⟨rfl, rfl⟩
  go_wp2_with fail
  refine (c4.out _).mono ?_
  rintro e w' ⟨rfl, rfl⟩
  go_wp2_with fail
  refine (c5.out _).mono ?_
  rintro e w' ⟨rfl, rfl⟩
  go_wp2_with fail
  refine (c6.out _).mono ?_
  rintro e w' ⟨rfl, rfl⟩
  cases s1
  · clear L1
    go_wp2_with fail
    refine (c8.out _).mono ?_
    rintro e w' ⟨rfl, rfl⟩
    go_wp2_with fail
    rw [YY.out]
    refine (c9.out _).mono ?_
    rintro e w' ⟨rfl, rfl⟩
    go_wp2_with fail
    refine (ck.out _).mono ?_
    rintro e w' ⟨rfl, rfl⟩
    go_wp2_with fail
    go_ret
    exact ⟨rfl, Below.refl _ _⟩
  · have hs2 : s2 = false := by have := L1.out; simpa using this
    subst hs2
    clear L1
    go_wp2_with fail
    refine (c7.out _).mono ?_
    rintro e w' ⟨rfl, rfl⟩
    go_wp2_with fail
    refine (c8.out _).mono ?_
    rintro e w' ⟨rfl, rfl⟩
    go_wp2_with fail
    rw [YY.out]
    refine (c9.out _).mono ?_
    rintro e w' ⟨rfl, rfl⟩
    go_wp2_with fail
    refine (ck.out _).mono ?_
    rintro e w' ⟨rfl, rfl⟩
    go_wp2_with fail
    go_ret
    exact ⟨rfl, Below.refl _ _⟩
end Go.Proofs.Ytjlafpnlkdbkfaa
