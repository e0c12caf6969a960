/- Contracts: limelightref9.wide, Less. -/
import Derived.Test.YtfijlgkgbbemnaaCkS
namespace Go.Proofs.Ytfijlgkgbbemnaa
open Go.RowKit
set_option linter.unusedVariables false
set_option linter.unusedSimpArgs false
set_option maxRecDepth 20000

theorem ref_wide (a b : Nat) (ha : a < 18446744073709551616) (hb : b < 18446744073709551616) (w : World) : Calls Try.prog 55 #[.int .u64 (a : Int), .int .u64 (b : Int)] w (Sti (.tuple #[.int .u64 ((a * b / 18446744073709551616 : Nat) : Int), .int .u64 ((a * b % 18446744073709551616 : Nat) : Int)]) w) := by
  have HH := Lib.hid (high_half a b)
  have yab : IntKind.u64.wrap ((a : Int) * (b : Int)) = ((a * b % 18446744073709551616 : Nat) : Int) := by
    rw [← Int.natCast_mul, IntKind.wrap_u64]
    generalize a * b = P
    omega
  have n1 := and32 a ha
  have n2 := and32 b hb
  have s1 : (a : Int) / 4294967296 = ((a / 4294967296 : Nat) : Int) := by omega
  have s2 : (b : Int) / 4294967296 = ((b / 4294967296 : Nat) : Int) := by omega
  obtain ⟨H, hH⟩ : ∃ H, H = a * b / 18446744073709551616 := ⟨_, rfl⟩
  obtain ⟨L, hL⟩ : ∃ L, L = a * b % 18446744073709551616 := ⟨_, rfl⟩
  have hH64 : H ≤ 18446744073709551615 := by
    rw [hH]
    have h1 : a * b ≤ 18446744073709551615 * 18446744073709551615 := Nat.mul_le_mul (by omega) (by omega)
    generalize a * b = P at h1 ⊢
    omega
  rw [← hH] at HH
  rw [← hL] at yab
  rw [← hH, ← hL]
  clear hH hL
  have b1 : a / 4294967296 ≤ 4294967295 := by omega
  have b2 : a % 4294967296 ≤ 4294967295 := by omega
  have b3 : b / 4294967296 ≤ 4294967295 := by omega
  have b4 : b % 4294967296 ≤ 4294967295 := by omega
  generalize a / 4294967296 = ah at *
  generalize a % 4294967296 = al at *
  generalize b / 4294967296 = bh at *
  generalize b % 4294967296 = bl at *
  have m1 := mul_32 b2 b4
  have m2 := mul_32 b1 b4
  have m3 := mul_32 b2 b3
  have m4 := mul_32 b1 b3
  have p1 : IntKind.u64.wrap ((al : Int) * (bl : Int)) = ((al * bl : Nat) : Int) := by rw [← Int.natCast_mul]; exact u64_nn _ (by omega)
  have p2 : IntKind.u64.wrap ((ah : Int) * (bl : Int)) = ((ah * bl : Nat) : Int) := by rw [← Int.natCast_mul]; exact u64_nn _ (by omega)
  have p3 : IntKind.u64.wrap ((al : Int) * (bh : Int)) = ((al * bh : Nat) : Int) := by rw [← Int.natCast_mul]; exact u64_nn _ (by omega)
  have p4 : IntKind.u64.wrap ((ah : Int) * (bh : Int)) = ((ah * bh : Nat) : Int) := by rw [← Int.natCast_mul]; exact u64_nn _ (by omega)
  generalize al * bl = R at *
  generalize ah * bl = P at *
  generalize al * bh = Q at *
  generalize ah * bh = S at *
  have n3 := and32 P (by omega)
  have n4 := and32 Q (by omega)
  have s3 : (R : Int) / 4294967296 = ((R / 4294967296 : Nat) : Int) := by omega
  have s4 : (P : Int) / 4294967296 = ((P / 4294967296 : Nat) : Int) := by omega
  have s5 : (Q : Int) / 4294967296 = ((Q / 4294967296 : Nat) : Int) := by omega
  have c1 : R / 4294967296 ≤ 4294967295 := by omega
  have c2 : P % 4294967296 ≤ 4294967295 := by omega
  have c3 : Q % 4294967296 ≤ 4294967295 := by omega
  have c4 : S + P / 4294967296 + Q / 4294967296 ≤ 18446744073709551615 := by have := HH.out; omega
  have c5 : S + P / 4294967296 ≤ 18446744073709551615 := by omega
  generalize R / 4294967296 = r1 at *
  generalize P % 4294967296 = p1m at *
  generalize Q % 4294967296 = q1m at *
  generalize P / 4294967296 = pd at *
  generalize Q / 4294967296 = qd at *
  have k1 : IntKind.u64.wrap ((r1 : Int) + (p1m : Int)) = ((r1 + p1m : Nat) : Int) := by rw [IntKind.wrap_u64]; omega
  generalize hk1 : r1 + p1m = K1 at *
  have k2 : IntKind.u64.wrap ((K1 : Int) + (q1m : Int)) = ((K1 + q1m : Nat) : Int) := by rw [IntKind.wrap_u64]; omega
  have hK2 : K1 + q1m ≤ 18446744073709551615 := by omega
  generalize hk2 : K1 + q1m = K2 at *
  have s6 : (K2 : Int) / 4294967296 = ((K2 / 4294967296 : Nat) : Int) := by omega
  generalize K2 / 4294967296 = kd at *
  have k3 : IntKind.u64.wrap ((S : Int) + (pd : Int)) = ((S + pd : Nat) : Int) := by rw [IntKind.wrap_u64]; omega
  generalize hk3 : S + pd = K3 at *
  have k4 : IntKind.u64.wrap ((K3 : Int) + (qd : Int)) = ((K3 + qd : Nat) : Int) := by rw [IntKind.wrap_u64]; omega
  generalize hk4 : K3 + qd = K4 at *
  have k5 : IntKind.u64.wrap ((K4 : Int) + (kd : Int)) = (H : Int) := by have := HH.out; rw [IntKind.wrap_u64]; omega
  clear hk1 hk2 hk3 hk4 HH c1 c2 c3 c4 c5 m1 m2 m3 m4 b1 b2 b3 b4 hK2 hH64
  go_enter Try.func55, Try.ntmps55
  go_wp2_with fail
  go_ret2
  exact ⟨rfl, rfl⟩
theorem ref_less (a b c d : Int) (ha : I64 a) (hb : I64 b) (hc : I64 c) (hd : I64 d) (w : World) : Calls Try.prog 49 #[.int .i64 a, .int .i64 b, .int .i64 c, .int .i64 d] w (Sti (.bool (lessC a b c d)) w) := by
  have ma := po_max a
  have mb := po_max b
  have mc := po_max c
  have md := po_max d
  have la := po_lt ha
  have lb := po_lt hb
  have lc := po_lt hc
  have ld := po_lt hd
  have HE : Hid (lessC a b c d = decide (po a * po b < po c * po d)) := Lib.hid rfl
  generalize lessC a b c d = E at HE ⊢
  clear ha hb hc hd
  generalize po a = x at *
  generalize po b = y at *
  generalize po c = z at *
  generalize po d = u at *
  have w1 := Lib.hid (ref_wide x y (by omega) (by omega))
  have w2 := Lib.hid (ref_wide z u (by omega) (by omega))
  have v1 := u64_nn x (by omega)
  have v2 := u64_nn y (by omega)
  have v3 := u64_nn z (by omega)
  have v4 := u64_nn u (by omega)
  have HL := Lib.hid (halves_lt (x * y) (z * u))
  generalize x * y = X at w1 HL HE
  generalize z * u = Z at w2 HL HE
  generalize X / 18446744073709551616 = h1 at w1 HL
  generalize X % 18446744073709551616 = l1 at w1 HL
  generalize Z / 18446744073709551616 = h2 at w2 HL
  generalize Z % 18446744073709551616 = l2 at w2 HL
  clear la lb lc ld
  go_enter Try.func49, Try.ntmps49
  go_wp2_with fail
  refine (w1.out _).mono ?_
  rintro e w' ⟨rfl, rfl⟩
  go_wp2_with fail
  refine (w2.out _).mono ?_
  rintro e w' ⟨rfl, rfl⟩
  by_cases t1 : h1 < h2
  · have t1' : decide ((h1 : Int) < (h2 : Int)) = true := by simp; omega
    have hE : E = true := by rw [HE.out, decide_eq_true_eq]; exact HL.out.1 (.inl t1)
    subst hE
    go_wp2_with fail
    go_ret
    exact ⟨rfl, rfl⟩
  have t1' : decide ((h1 : Int) < (h2 : Int)) = false := by simp; omega
  by_cases t2 : h1 = h2
  · have t2' : ((h1 : Int) == (h2 : Int)) = true := by rw [beq_iff_eq]; omega
    by_cases t3 : l1 < l2
    · have t3' : decide ((l1 : Int) < (l2 : Int)) = true := by simp; omega
      have hE : E = true := by rw [HE.out, decide_eq_true_eq]; exact HL.out.1 (.inr ⟨t2, t3⟩)
      subst hE
      clear t2
      go_wp2_with fail
      go_ret
      exact ⟨rfl, rfl⟩
    · have t3' : decide ((l1 : Int) < (l2 : Int)) = false := by simp; omega
      have hE : E = false := by
        rw [HE.out, decide_eq_false_iff_not]
        intro h
        rcases HL.out.2 h with h | h
        · exact t1 h
        · exact t3 h.2
      subst hE
      clear t2
      go_wp2_with fail
      go_ret
      exact ⟨rfl, rfl⟩
  · have t2' : ((h1 : Int) == (h2 : Int)) = false := by rw [beq_eq_false_iff_ne]; omega
    have hE : E = false := by
      rw [HE.out, decide_eq_false_iff_not]
      intro h
      rcases HL.out.2 h with h | h
      · exact t1 h
      · exact t2 h.1
    subst hE
    go_wp2_with fail
    go_ret
    exact ⟨rfl, rfl⟩
end Go.Proofs.Ytfijlgkgbbemnaa
