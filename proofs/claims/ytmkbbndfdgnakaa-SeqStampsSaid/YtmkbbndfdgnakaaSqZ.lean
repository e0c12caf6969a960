/- SeqStamps' walk. -/
import Derived.Test.YtmkbbndfdgnakaaSqE
import Derived.Test.YtmkbbndfdgnakaaRk
namespace Go.Proofs.Ytmkbbndfdgnakaa
open Go.RowKit
set_option linter.unusedVariables false
set_option linter.unusedSimpArgs false
set_option maxRecDepth 20000

set_option maxHeartbeats 4000000 in
theorem seqStamps_walk (fr : Int) (A : Option Addr) (n c : Nat) (F : Nat → Nat) (w : World) (hf : (Lit.int .u32 fr).wf = true) (h : RK .u32 4294967296 w w.heap.size A n c F) (hn : n ≤ 281474976710656) : Calls Try.prog 7 #[.int .u32 fr, .slice A n c] w (Yes w) := by
  obtain ⟨f0, rfl, hf0⟩ : ∃ k : Nat, fr = (k : Int) ∧ k < 4294967296 := by
    simp [Lit.wf, IntKind.min, IntKind.max, IntKind.signed, IntKind.bits] at hf
    exact ⟨fr.toNat, by omega, by omega⟩
  have HR := Lib.hid h
  clear h hf
  go_enter Try.func7, Try.ntmps7
  go_wp2_with fail
  go_loopw [5, 6, 7] (fun v a i wr => (∃ (q t : Nat), q ≤ 60 ∧ i = .int .i64 (q : Int) ∧ v = .int .i64 (t : Int) ∧ a = .int .i64 (t : Int) ∧ t ≤ 4294967295 + q * 2147483647 ∧ Hid (Below w.heap.size w wr))) (fun _ _ i _ => 60 - (intOf i).toNat)
  case atStart => exact ⟨0, f0, by omega, rfl, rfl, rfl, by omega, Lib.hid (Below.refl _ _)⟩
  case round =>
    obtain ⟨q, t, hq, rfl, rfl, rfl, ht, HB⟩ := hrel
    by_cases hlt : q < n ∧ q < 60
    · obtain ⟨h1, h2⟩ := hlt
      have g1 : decide ((q : Int) < (n : Int)) = true := by simp; omega
      have g1' : (q : Int) < (n : Int) := by omega
      have g2 : decide ((q : Int) < 60) = true := by simp; omega
      have g2' : (q : Int) < 60 := by omega
      obtain ⟨bA, off, rfl, hbA, hc⟩ := (HR.out.below HB.out).2.2 (by omega)
      have x0 := hc q h1
      obtain ⟨x, hxe⟩ : ∃ x, x = F q := ⟨_, rfl⟩
      rw [← hxe] at x0
      obtain ⟨k, hk, hkl⟩ := and32_at (x : Int) (m := 2147483647) (M := 2147483647) rfl (by omega)
      obtain ⟨y, hy⟩ : ∃ y, y = t + k := ⟨_, rfl⟩
      have y1 : IntKind.i64.wrap ((t : Int) + (k : Int)) = (y : Int) := by rw [hy, IntKind.wrap_i64]; omega
      have yk : IntKind.i64.wrap (k : Int) = (k : Int) := by rw [IntKind.wrap_i64]; omega
      obtain ⟨ky, ky1, ky2, ky3⟩ := u32_of (y : Int)
      have hS := fun W => sq_stamp_at (last := (t : Int)) (n := ky) (K := ky) rfl (by unfold I64; omega) ky2 (near32 (x := t) (y := (y : Int)) (by omega) (by omega) (by omega) (by omega) ky3) W
      have HS := Lib.hid hS
      have HY := Lib.hid (⟨hy, hkl, ht⟩ : _ ∧ _ ∧ _)
      clear hS hc hxe hbA ky2 ky3 hy hkl ht
      go_wp2_with fail
      refine (HS.out _).mono ?_
      rintro e w2 ⟨rfl, m2, hm2⟩
      have HB2 : Hid (Below w.heap.size w w2) := Lib.hid (by subst hm2; exact HB.out.trans ((belowDrewN wr m2).mono HB.out.size))
      clear hm2 HS HB x0
      go_wp2_with fail
      go_roundw
      case rel => exact ⟨q + 1, y, by omega, by go_num, rfl, rfl, by have := HY.out; omega, HB2⟩
      case measure => simp [intOf]; omega
    · by_cases h1 : q < n
      · have g1 : decide ((q : Int) < (n : Int)) = true := by simp; omega
        have g1' : (q : Int) < (n : Int) := by omega
        have g2 : decide ((q : Int) < 60) = false := by simp; omega
        go_wp2_with fail
        refine (known15_any _).mono ?_
        rintro e w2 ⟨rfl, b2⟩
        go_wp2_with fail
        go_ret
        exact ⟨rfl, HB.out.trans (b2.mono HB.out.size)⟩
      · have g1 : decide ((q : Int) < (n : Int)) = false := by simp; omega
        go_wp2_with fail
        refine (known15_any _).mono ?_
        rintro e w2 ⟨rfl, b2⟩
        go_wp2_with fail
        go_ret
        exact ⟨rfl, HB.out.trans (b2.mono HB.out.size)⟩
end Go.Proofs.Ytmkbbndfdgnakaa
