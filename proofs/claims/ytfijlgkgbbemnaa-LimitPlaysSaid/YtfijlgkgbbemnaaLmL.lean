/- LimitLater's walk. -/
import Derived.Test.YtfijlgkgbbemnaaLmK
import Derived.Test.YtfijlgkgbbemnaaMsk
namespace Go.Proofs.Ytfijlgkgbbemnaa
open Go.RowKit
set_option linter.unusedVariables false
set_option linter.unusedSimpArgs false
set_option maxRecDepth 20000

def e1 (r : Nat) (u : Int) : Ents := [⟨⟨1, r, 3⟩, u⟩]
def e2 (r r2 : Nat) (u u2 : Int) : Ents := [⟨⟨1, r, 3⟩, u⟩, ⟨⟨2, r2, 3⟩, u2⟩]
section
variable {r r2 r3 : Nat} {u u2 u3 now : Int}
theorem l_until {x u : Nat} (h : x ≤ 2000000) (hu : x + 1000000 = u) : untilE (x : Int) = (u : Int) := by
  unfold untilE addC po
  rw [if_neg (by omega)]
  omega
theorem l_put1 : putE [] ⟨⟨1, r, 3⟩, u⟩ = e1 r u := by simp [putE, hereE, posE, e1]
theorem l_put2 : putE (e1 r u) ⟨⟨2, r2, 3⟩, u2⟩ = e2 r r2 u u2 := by simp [putE, hereE, posE, e1, e2]
theorem l_put3 : putE (e2 r r2 u u2) ⟨⟨1, r3, 3⟩, u3⟩ = e2 r3 r2 u3 u2 := by simp [putE, hereE, posE, e2]
theorem l_ok2 : okE (e1 r u) 2 = true := by simp [okE, e1]
theorem l_ok3 : okE (e2 r r2 u u2) 1 = true := by simp [okE, e2]
theorem l_lim2 (h : r2 ≤ r) (hr : r ≤ 20000000) : limV 1099511627776 none (e2 r r2 u u2) = r2 / 8 := by
  unfold limV rbC
  rw [if_neg (by simp [e2])]
  simp only [e2, Ents.T, heldR, holdT, minR, List.map_cons, List.map_nil, List.foldl_cons, List.foldl_nil, btR]
  omega
theorem l_lim1 (hr : r ≤ 20000000) : limV 1099511627776 none (e1 r u) = r / 8 := by
  unfold limV rbC
  rw [if_neg (by simp [e1])]
  simp only [e1, Ents.T, heldR, holdT, minR, List.map_cons, List.map_nil, List.foldl_cons, List.foldl_nil, btR]
  omega
theorem l_lim0 : ((limV 1099511627776 none [] : Nat) : Int) = 1099511627776 := by simp [limV, rbC]
theorem l_cap : capN 1099511627776 = 1099511627776 := by simp [capN]
theorem l_tick_one (h : u2 ≤ now) (h1 : now < u) : tickE (e2 r r2 u u2) now = e1 r u := by simp [tickE, e2, e1, h1, Int.not_lt.2 h]
theorem l_tick_two (h : u2 ≤ now) (h1 : u ≤ now) : tickE (e2 r r2 u u2) now = [] := by simp [tickE, e2, Int.not_lt.2 h1, Int.not_lt.2 h]
theorem l_tick_last (h : u ≤ now) : tickE (e1 r u) now = [] := by simp [tickE, e1, Int.not_lt.2 h]
end
theorem l_in {o r : Nat} (ho : o ≤ 20) (hr : r ≤ 40000000000) {v : Int} (hv : v = 3 ∨ v = 0) : (⟨o, r, v⟩ : Tup).In := ⟨by show o < _; omega, by show r < _; omega, by show I64 v; unfold I64; omega⟩
set_option maxHeartbeats 4000000 in
theorem limitLater_walk (p : Nat) (n m : Int) (w : World) (_ : p < 18446744073709551616) (_ : I64 n) (_ : I64 m) : Calls Try.prog 7 #[.int .u64 (p : Int), .int .i64 n, .int .i64 m] w (Yes w) := by
  obtain ⟨x, hx, hxl⟩ := bits_and_at n (m := 1048575) (M := 1048575) rfl (by decide)
  obtain ⟨z, hz, hzl⟩ := bits_and_at m (m := 524287) (M := 524287) rfl (by decide)
  obtain ⟨r, hr, hrl⟩ := and64_at (p : Int) (m := 16777215) (M := 16777215) rfl (by decide)
  have HP := Lib.hid (⟨hx, hz, hr⟩ : _ ∧ _ ∧ _)
  clear hx hz hr
  obtain ⟨y, hy⟩ : ∃ y, x + z = y := ⟨_, rfl⟩
  obtain ⟨r2, hr2⟩ : ∃ q, r + 800 = q := ⟨_, rfl⟩
  obtain ⟨r3, hr3⟩ : ∃ q, r + 8000 = q := ⟨_, rfl⟩
  obtain ⟨ux, hux⟩ : ∃ q, x + 1000000 = q := ⟨_, rfl⟩
  obtain ⟨uy, huy⟩ : ∃ q, y + 1000000 = q := ⟨_, rfl⟩
  have AA := Lib.hid (⟨wi_at (a := (x : Int)) (b := (z : Int)) (c := y) (by omega) (by omega), wu_at (a := (r : Int)) (b := 800) (c := r2) (by omega) (by omega), wu_at (a := (r : Int)) (b := 8000) (c := r3) (by omega) (by omega), wi_at (a := (x : Int)) (b := 1000000) (c := ux) (by omega) (by omega), wi_at (a := (y : Int)) (b := 1000000) (c := uy) (by omega) (by omega)⟩ : _ ∧ _ ∧ _ ∧ _ ∧ _)
  have hyx : x ≤ y := by omega
  have hyl : y ≤ 2000000 := by omega
  have hr2l : r2 ≤ 20000000 := by omega
  have hr3l : r3 ≤ 20000000 := by omega
  have hr23 : r2 ≤ r3 := by omega
  have huxl : ux ≤ 4000000 := by omega
  have huyl : uy ≤ 4000000 := by omega
  have H0 := Lib.hid (⟨⟨l_until (by omega) hux, l_until hyl huy⟩, ⟨hux, huy⟩, ⟨hyx, hyl, hr2l, hr3l⟩, ⟨hr23, huxl, huyl⟩, ⟨hxl, hrl⟩⟩ : (untilE (x : Int) = (ux : Int) ∧ untilE (y : Int) = (uy : Int)) ∧ (x + 1000000 = ux ∧ y + 1000000 = uy) ∧ (x ≤ y ∧ y ≤ 2000000 ∧ r2 ≤ 20000000 ∧ r3 ≤ 20000000) ∧ (r2 ≤ r3 ∧ ux ≤ 4000000 ∧ uy ≤ 4000000) ∧ x ≤ 1048575 ∧ r ≤ 16777215)
  have IC := Lib.hid (fun (k : Int) (h1 : -1 ≤ k) (h2 : k ≤ 1099511627776) => (by unfold I64; omega : I64 k))
  have IX := Lib.hid (⟨IC.out (x : Int) (by omega) (by omega), IC.out (y : Int) (by omega) (by omega), IC.out (ux : Int) (by omega) (by omega), IC.out (uy : Int) (by omega) (by omega)⟩ : _ ∧ _ ∧ _ ∧ _)
  have IN := Lib.hid (⟨l_in (by omega) (by omega) (.inl rfl), l_in (by omega) (by omega) (.inl rfl), l_in (by omega) (by omega) (.inl rfl)⟩ : (⟨1, r, 3⟩ : Tup).In ∧ (⟨2, r2, 3⟩ : Tup).In ∧ (⟨1, r3, 3⟩ : Tup).In)
  have L2 := Lib.hid (by rw [l_lim2 (by omega) (by omega)]; omega : ((limV 1099511627776 none (e2 r3 r2 (uy : Int) (ux : Int)) : Nat) : Int) = (r2 : Int) / 8)
  have L1 := Lib.hid (by rw [l_lim1 (by omega)]; omega : ((limV 1099511627776 none (e1 r3 (uy : Int)) : Nat) : Int) = (r3 : Int) / 8)
  clear hy hux huy hr2 hr3 hzl
  have a1 := AA.out.1
  have hx := HP.out.1
  have hz := HP.out.2.1
  have hr := HP.out.2.2
  go_enter Try.func7, Try.ntmps7
  go_wp2_with fail
  ((with_reducible refine (lm_new_at 1099511627776 (IC.out _ (by decide) (by decide)) _ (c := 1099511627776) l_cap).mono ?_); rintro e w1 ⟨G, S, rfl, h1⟩)
  have H1 := Lib.hid h1
  clear h1
  go_upto_region 5 with (fail)
  clear hx hz hr a1
  have a2 := AA.out.2.1
  have a3 := AA.out.2.2.1
  go_wp2_with fail
  ((with_reducible refine (lm_tmmbr_at H1.out (o := 1) (r := r) (O := 1) (R := (r : Int)) (b := true) (E' := e1 r ux) IN.out.1 IX.out.1 rfl rfl (by rw [H0.out.1.1]; exact l_put1) rfl).mono ?_); rintro e w2 ⟨rfl, S2, h2⟩)
  have H2 := Lib.hid h2
  clear h2
  go_wp2_with fail
  ((with_reducible refine (lm_tmmbr_at H2.out (o := 2) (r := r2) (O := 2) (R := (r2 : Int)) (b := true) (E' := e2 r r2 ux ux) IN.out.2.1 IX.out.1 rfl rfl (by rw [H0.out.1.1]; exact l_put2) l_ok2).mono ?_); rintro e w3 ⟨rfl, S3, h3⟩)
  have H3 := Lib.hid h3
  clear h3
  go_wp2_with fail
  ((with_reducible refine (lm_tmmbr_at H3.out (o := 1) (r := r3) (O := 1) (R := (r3 : Int)) (b := true) (E' := e2 r3 r2 uy ux) IN.out.2.2 IX.out.2.1 rfl rfl (by rw [H0.out.1.2]; exact l_put3) l_ok3).mono ?_); rintro e w4 ⟨rfl, S4, h4⟩)
  have H4 := Lib.hid h4
  clear h4
  go_wp2_with fail
  ((with_reducible refine (lm_rate_at H4.out (Nat.le_refl _) rb_none (n := (r2 : Int) / 8) L2.out).mono ?_); rintro e w5 ⟨rfl, h5⟩)
  have H5 := Lib.hid h5
  clear h5
  clear a2 a3
  by_cases hz0 : y = x
  · have t1 : decide ((y : Int) = (x : Int)) = true := by simp; omega
    have T1 := Lib.hid (l_tick_two (r := r3) (r2 := r2) (u := (uy : Int)) (u2 := (ux : Int)) (now := (ux : Int)) (by omega) (by have := H0.out.2.1; omega))
    have a2 := AA.out.2.1
    have a3 := AA.out.2.2.1
    have a4 := AA.out.2.2.2.1
    have a5 := AA.out.2.2.2.2
    go_wp2_with fail
    ((with_reducible refine (lm_tick_at H5.out (n := 2) (E' := []) IX.out.2.2.1 T1.out (by rw [T1.out]; simp [e1, e2])).mono ?_); rintro e w6 ⟨rfl, S6, h6⟩)
    have H6 := Lib.hid h6
    clear h6
    go_wp2_with fail
    ((with_reducible refine (lm_rate_at H6.out (Nat.le_refl _) rb_none (n := 1099511627776) l_lim0).mono ?_); rintro e w7 ⟨rfl, h7⟩)
    have H7 := Lib.hid h7
    clear h7
    go_wp2_with fail
    ((with_reducible refine (lm_tick_at H7.out (n := 0) (E' := []) IX.out.2.2.1 rfl rfl).mono ?_); rintro e w8 ⟨rfl, S8, h8⟩)
    have H8 := Lib.hid h8
    clear h8
    go_wp2_with fail
    ((with_reducible refine (lm_rate_at H8.out (Nat.le_refl _) rb_none (n := 1099511627776) l_lim0).mono ?_); rintro e w9 ⟨rfl, h9⟩)
    have H9 := Lib.hid h9.below
    clear h9
    go_wp2_with fail
    ((with_reducible refine (known14_any _).mono ?_); rintro e w10 ⟨rfl, b10⟩)
    have H10 := Lib.hid (H9.out.trans (b10.mono H9.out.size))
    clear b10
    go_wp2_with fail
    go_ret
    exact ⟨rfl, H10.out⟩
  · have t1 : ((y : Int) == (x : Int)) = false := by simp; omega
    have hlt : (ux : Int) < (uy : Int) := by have := H0.out.2.1; have := H0.out.2.2.1.1; omega
    have T1 := Lib.hid (l_tick_one (r := r3) (r2 := r2) (u := (uy : Int)) (u2 := (ux : Int)) (now := (ux : Int)) (by omega) hlt)
    have T2 := Lib.hid (l_tick_last (r := r3) (u := (uy : Int)) (now := (uy : Int)) (by omega))
    have a2 := AA.out.2.1
    have a3 := AA.out.2.2.1
    have a4 := AA.out.2.2.2.1
    have a5 := AA.out.2.2.2.2
    clear hlt
    clear hz0
    go_wp2_with fail
    ((with_reducible refine (lm_tick_at H5.out (n := 1) (E' := e1 r3 uy) IX.out.2.2.1 T1.out (by rw [T1.out]; simp [e1, e2])).mono ?_); rintro e w6 ⟨rfl, S6, h6⟩)
    have H6 := Lib.hid h6
    clear h6
    go_wp2_with fail
    ((with_reducible refine (lm_rate_at H6.out (Nat.le_refl _) rb_none (n := (r3 : Int) / 8) L1.out).mono ?_); rintro e w7 ⟨rfl, h7⟩)
    have H7 := Lib.hid h7
    clear h7
    go_wp2_with fail
    ((with_reducible refine (lm_tick_at H7.out (n := 1) (E' := []) IX.out.2.2.2 T2.out (by rw [T2.out]; simp [e1])).mono ?_); rintro e w8 ⟨rfl, S8, h8⟩)
    have H8 := Lib.hid h8
    clear h8
    go_upto_region 14 with (fail)
    clear t1
    have c2 : IntKind.i64.wrap ((r2 : Int) / 8) = (r2 : Int) / 8 := by rw [IntKind.wrap_i64]; have := H0.out.2.2.1; clear a2 a3; omega
    have c3 : IntKind.i64.wrap ((r3 : Int) / 8) = (r3 : Int) / 8 := by rw [IntKind.wrap_i64]; have := H0.out.2.2.1; clear a2 a3 c2; omega
    go_wp2_with fail
    ((with_reducible refine (lm_rate_at H8.out (Nat.le_refl _) rb_none (n := 1099511627776) l_lim0).mono ?_); rintro e w9 ⟨rfl, h9⟩)
    have H9 := Lib.hid h9.below
    clear h9
    go_wp2_with fail
    ((with_reducible refine (known14_any _).mono ?_); rintro e w10 ⟨rfl, b10⟩)
    have H10 := Lib.hid (H9.out.trans (b10.mono H9.out.size))
    clear b10
    go_wp2_with fail
    go_ret
    exact ⟨rfl, H10.out⟩
end Go.Proofs.Ytfijlgkgbbemnaa
