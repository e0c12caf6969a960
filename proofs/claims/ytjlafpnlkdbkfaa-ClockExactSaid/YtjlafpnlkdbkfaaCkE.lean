/- ClockExact's walk. -/
import Derived.Test.YtjlafpnlkdbkfaaCkO
namespace Go.Proofs.Ytjlafpnlkdbkfaa
open Go.RowKit
set_option linter.unusedVariables false
set_option linter.unusedSimpArgs false
set_option maxRecDepth 20000

set_option maxHeartbeats 1000000 in
theorem clockExact_walk (a b c d : Int) (w : World) (ha : I64 a) (hb : I64 b) (hc : I64 c) (hd : I64 d) :
    Calls Try.prog 6 #[.int .i64 a, .int .i64 b, .int .i64 c, .int .i64 d] w (Yes w) := by
  obtain ⟨p, hp, p1⟩ := bits_and_le a 2147483647 (by omega)
  obtain ⟨x, hx, x1⟩ := bits_and_le b 2147483647 (by omega)
  obtain ⟨y, hy, y1⟩ := bits_and_le c 2147483647 (by omega)
  obtain ⟨z, hz, z1⟩ := bits_and_le d 2147483647 (by omega)
  have HP : Hid (bits .and .i64 a 2147483647 = (p : Int)) := Lib.hid hp
  have HX : Hid (bits .and .i64 b 2147483647 = (x : Int)) := Lib.hid hx
  have HY : Hid (bits .and .i64 c 2147483647 = (y : Int)) := Lib.hid hy
  have HZ : Hid (bits .and .i64 d 2147483647 = (z : Int)) := Lib.hid hz
  clear hp hx hy hz ha hb hc hd
  have m1 : p * x ≤ 2147483647 * 2147483647 := Nat.mul_le_mul p1 x1
  have m2 : y * z ≤ 2147483647 * 2147483647 := Nat.mul_le_mul y1 z1
  have e1 : IntKind.i64.wrap ((p : Int) * (x : Int)) = ((p * x : Nat) : Int) := by rw [← Int.natCast_mul]; exact i64_nn _ (by omega)
  have e2 : IntKind.i64.wrap ((y : Int) * (z : Int)) = ((y * z : Nat) : Int) := by rw [← Int.natCast_mul]; exact i64_nn _ (by omega)
  have e3 : IntKind.i64.wrap (((p * x : Nat) : Int) + (y : Int)) = ((p * x + y : Nat) : Int) := i64_nn _ (by omega)
  have c1 := Lib.hid (fun W => clock_less p x y z (by unfold I64; omega) (by unfold I64; omega) (by unfold I64; omega) (by unfold I64; omega) W)
  have c2 := Lib.hid (fun W => clock_mul p x (by unfold I64; omega) (by unfold I64; omega) W)
  have c3 := Lib.hid (fun W => clock_add ((p * x : Nat) : Int) y (by unfold I64; omega) (by unfold I64; omega) W)
  have c4 : Hid (∀ W, Calls Try.prog 12 #[.int .i64 ((p : Int) * 4294967296), .int .i64 (x : Int), .int .i64 ((y : Int) * 4294967296), .int .i64 (z : Int)] W (Sti (.bool (decide (p * x < y * z))) W)) := Lib.hid (fun W => by
    have h := clock_less ((p * 4294967296 : Nat) : Int) x ((y * 4294967296 : Nat) : Int) z (by unfold I64; omega) (by unfold I64; omega) (by unfold I64; omega) (by unfold I64; omega) W
    rw [less_scale _ _ _ _ _ (by omega)] at h
    simp only [Int.natCast_mul] at h
    exact h)
  have c5 : Hid (∀ W, Calls Try.prog 12 #[.int .i64 ((p : Int) * 2147483648), .int .i64 ((x : Int) * 2147483648), .int .i64 ((y : Int) * 2147483648), .int .i64 ((z : Int) * 2147483648)] W (Sti (.bool (decide (p * x < y * z))) W)) := Lib.hid (fun W => by
    have h := clock_less ((p * 2147483648 : Nat) : Int) ((x * 2147483648 : Nat) : Int) ((y * 2147483648 : Nat) : Int) ((z * 2147483648 : Nat) : Int) (by unfold I64; omega) (by unfold I64; omega) (by unfold I64; omega) (by unfold I64; omega) W
    rw [less_scale2 _ _ _ _ _ (by omega)] at h
    simp only [Int.natCast_mul] at h
    exact h)
  have ck := Lib.hid (fun W => known9_any W)
  rw [less_nat] at c1
  rw [mulC_small (by omega)] at c2
  rw [addC_small (by omega)] at c3
  generalize p * x = A at *
  generalize y * z = B at *
  generalize hT : decide (A < B) = T at *
  have hT' : decide ((A : Int) < (B : Int)) = T := by rw [← hT]; congr 1; apply propext; omega
  go_enter Try.func6, Try.ntmps6
  go_wp2_with fail
  rw [HP.out, HX.out, HY.out, HZ.out]
  refine (c1.out _).mono ?_
  rintro e w' ⟨rfl, rfl⟩
  go_wp2_with fail
  refine (c2.out _).mono ?_
  rintro e w' ⟨rfl, rfl⟩
  go_wp2_with fail
  refine (c3.out _).mono ?_
  rintro e w' ⟨rfl, rfl⟩
  go_wp2_with fail
  refine (c4.out _).mono ?_
  rintro e w' ⟨rfl, rfl⟩
  go_wp2_with fail
  refine (c5.out _).mono ?_
  rintro e w' ⟨rfl, rfl⟩
  go_wp2_with fail
  refine (ck.out _).mono ?_
  rintro e w' ⟨rfl, rfl⟩
  go_wp2_with fail
  go_ret
  exact ⟨rfl, Below.refl _ _⟩
end Go.Proofs.Ytjlafpnlkdbkfaa
