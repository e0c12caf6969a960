/- SeqNear's walk. -/
import Derived.Test.YtmkbbndfdgnakaaSqK
import Derived.Test.YtmkbbndfdgnakaaMsk
namespace Go.Proofs.Ytmkbbndfdgnakaa
open Go.RowKit
set_option linter.unusedVariables false
set_option linter.unusedSimpArgs false
set_option maxRecDepth 20000

theorem u16_of (z : Int) : ∃ k : Nat, IntKind.u16.wrap z = (k : Int) ∧ k < 65536 ∧ (k : Int) = z % 65536 := ⟨(z % 65536).toNat, by show z % 65536 = _; omega, by omega, by omega⟩
theorem u32_of (z : Int) : ∃ k : Nat, IntKind.u32.wrap z = (k : Int) ∧ k < 4294967296 ∧ (k : Int) = z % 4294967296 := ⟨(z % 4294967296).toNat, by show z % 4294967296 = _; omega, by omega, by omega⟩
theorem near16 {x : Nat} {y : Int} {k : Nat} (hx : x ≤ 1125899906842623) (hy : 0 ≤ y) (h1 : y - x < 32768) (h2 : x - y < 32768) (hk : (k : Int) = y % 65536) : ext16 (x : Int) k = y := by
  unfold ext16
  rw [hk]
  exact ext16_near (by omega) (by omega) hy h1 h2
theorem near32 {x : Nat} {y : Int} {k : Nat} (hx : x ≤ 1125899906842623) (hy : 0 ≤ y) (h1 : y - x < 2147483648) (h2 : x - y < 2147483648) (hk : (k : Int) = y % 4294967296) : ext32 (x : Int) k = y := by
  unfold ext32
  rw [hk]
  exact ext32_near (by omega) (by omega) hy h1 h2
set_option maxHeartbeats 4000000 in
theorem seqNear_walk (last step : Int) (w : World) (hl : I64 last) (hs : I64 step) : Calls Try.prog 5 #[.int .i64 last, .int .i64 step] w (Yes w) := by
  obtain ⟨x, hx, hxl⟩ := bits_and_at last (m := 1125899906842623) (M := 1125899906842623) rfl (by omega)
  have d1 := Int.lt_tmod_of_pos step (show (0 : Int) < 32767 by omega)
  have d2 := Int.tmod_lt_of_pos step (show (0 : Int) < 32767 by omega)
  have e1 := Int.lt_tmod_of_pos step (show (0 : Int) < 2147483647 by omega)
  have e2 := Int.tmod_lt_of_pos step (show (0 : Int) < 2147483647 by omega)
  obtain ⟨d, hd⟩ : ∃ d, step.tmod 32767 = d := ⟨_, rfl⟩
  obtain ⟨e, he⟩ : ∃ e, step.tmod 2147483647 = e := ⟨_, rfl⟩
  rw [hd] at d1 d2
  rw [he] at e1 e2
  obtain ⟨y, hy⟩ : ∃ y, y = (x : Int) + d := ⟨_, rfl⟩
  obtain ⟨z, hz⟩ : ∃ z, z = (x : Int) + e := ⟨_, rfl⟩
  have y1 : IntKind.i64.wrap ((x : Int) + d) = y := by rw [hy, IntKind.wrap_i64]; omega
  have z1 : IntKind.i64.wrap ((x : Int) + e) = z := by rw [hz, IntKind.wrap_i64]; omega
  obtain ⟨kx, kx1, kx2, kx3⟩ := u16_of (x : Int)
  obtain ⟨mx, mx1, mx2, mx3⟩ := u32_of (x : Int)
  obtain ⟨ky, ky1, ky2, ky3⟩ := u16_of y
  obtain ⟨kz, kz1, kz2, kz3⟩ := u32_of z
  have hI : I64 (x : Int) := by unfold I64; omega
  have C1 := fun W => sq_extend_at (n := kx) (K := kx) rfl hI kx2 (near16 hxl (by omega) (by omega) (by omega) kx3) W
  have C2 := fun W => sq_stamp_at (n := mx) (K := mx) rfl hI mx2 (near32 hxl (by omega) (by omega) (by omega) mx3) W
  have HC := Lib.hid (⟨C1, C2⟩ : _ ∧ _)
  have HI := Lib.hid (⟨hI, hxl, ky2, ky3, kz2, kz3, hy, hz, d1, d2, e1, e2⟩ : _ ∧ _ ∧ _ ∧ _ ∧ _ ∧ _ ∧ _ ∧ _ ∧ _ ∧ _ ∧ _ ∧ _)
  clear C1 C2 hI hxl kx2 kx3 mx2 mx3 ky2 ky3 kz2 kz3 hy hz d1 d2 e1 e2 hl hs
  by_cases hn : y < 0 ∨ z < 0
  · have go : ∀ (b : Bool), decide (y < 0) = b → (b = false → z < 0) → Calls Try.prog 5 #[.int .i64 last, .int .i64 step] w (Yes w) := by
      intro b hb hz0
      cases b
      · have hz0 := hz0 rfl
        have hy0 : ¬ y < 0 := by simpa using hb
        clear hb
        go_enter Try.func5, Try.ntmps5
        go_wp2_with fail
        refine (HC.out.1 _).mono ?_
        rintro e w1 ⟨rfl, m1, hm1⟩
        go_wp2_with fail
        refine (known15_any _).mono ?_
        rintro e w2 ⟨rfl, b2⟩
        go_wp2_with fail
        go_ret
        subst hm1
        exact ⟨rfl, (belowDrewN w m1).trans b2⟩
      · have hy0 : y < 0 := by simpa using hb
        clear hb hz0
        go_enter Try.func5, Try.ntmps5
        go_wp2_with fail
        refine (HC.out.1 _).mono ?_
        rintro e w1 ⟨rfl, m1, hm1⟩
        go_wp2_with fail
        refine (known15_any _).mono ?_
        rintro e w2 ⟨rfl, b2⟩
        go_wp2_with fail
        go_ret
        subst hm1
        exact ⟨rfl, (belowDrewN w m1).trans b2⟩
    exact go _ rfl (fun h => by
      rcases hn with h1 | h1
      · simp at h
        omega
      · exact h1)
  · have hy0 : ¬ y < 0 := fun h => hn (.inl h)
    have hz0 : ¬ z < 0 := fun h => hn (.inr h)
    have D1 := fun W => sq_extend_at (last := (x : Int)) (n := ky) (K := ky) rfl HI.out.1 HI.out.2.2.1 (near16 HI.out.2.1 (by omega) (by obtain ⟨_, _, _, _, _, _, h1, h2, h3, h4, h5, h6⟩ := HI.out; omega) (by obtain ⟨_, _, _, _, _, _, h1, h2, h3, h4, h5, h6⟩ := HI.out; omega) HI.out.2.2.2.1) W
    have D2 := fun W => sq_stamp_at (last := (x : Int)) (n := kz) (K := kz) rfl HI.out.1 HI.out.2.2.2.2.1 (near32 HI.out.2.1 (by omega) (by obtain ⟨_, _, _, _, _, _, h1, h2, h3, h4, h5, h6⟩ := HI.out; omega) (by obtain ⟨_, _, _, _, _, _, h1, h2, h3, h4, h5, h6⟩ := HI.out; omega) HI.out.2.2.2.2.2.1) W
    have HD := Lib.hid (⟨D1, D2⟩ : _ ∧ _)
    clear D1 D2 hn HI
    go_enter Try.func5, Try.ntmps5
    go_wp2_with fail
    refine (HD.out.1 _).mono ?_
    rintro e w1 ⟨rfl, m1, hm1⟩
    go_wp2_with fail
    refine (HD.out.2 _).mono ?_
    rintro e w2 ⟨rfl, m2, hm2⟩
    go_wp2_with fail
    refine (HC.out.1 _).mono ?_
    rintro e w3 ⟨rfl, m3, hm3⟩
    go_wp2_with fail
    refine (HC.out.2 _).mono ?_
    rintro e w4 ⟨rfl, m4, hm4⟩
    go_wp2_with fail
    refine (known15_any _).mono ?_
    rintro e w5 ⟨rfl, b5⟩
    go_wp2_with fail
    go_ret
    subst hm4
    subst hm3
    subst hm2
    subst hm1
    exact ⟨rfl, (belowDrewN w _).trans b5⟩
end Go.Proofs.Ytmkbbndfdgnakaa
