/- The laws' helpers of layer 2: same, known. -/
import Derived.Test.YthdefkcdpjlmiaaRidD
namespace Go.Proofs.Ythdefkcdpjlmiaa
open Go.RowKit
set_option linter.unusedVariables false
set_option linter.unusedSimpArgs false

theorem lawsame (a b : ByteArray) (n : Int) (w : World) (ha : a.size ≤ 4398046511104) (hb : b.size ≤ 4398046511104) (hn : I64 n) : Calls Try.prog 7 #[.string a, .string b, .int .i64 n] w (Yes w) := by
  go_enter Try.func7, Try.ntmps7
  go_wp2_with fail
  refine (count_any a _ (by omega)).mono ?_
  rintro e w1 ⟨rfl, b1⟩
  go_wp2_with fail
  refine (ref_count a _ (by omega)).mono ?_
  rintro e w2 ⟨rfl, b2⟩
  have b2' := b1.trans (b2.mono b1.size)
  clear b1 b2
  go_wp2_with fail
  refine (right_any a _ (by omega)).mono ?_
  rintro e w3 ⟨rfl, b3⟩
  have b3' := b2'.trans (b3.mono b2'.size)
  clear b2' b3
  go_wp2_with fail
  refine (ref_rid a _ (by omega)).mono ?_
  rintro e w4 ⟨rfl, b4⟩
  have b4' := b3'.trans (b4.mono b3'.size)
  clear b3' b4
  go_wp2_with fail
  refine (fold_any a _ ha).mono ?_
  rintro e w5 ⟨rfl, b5⟩
  have b5' := b4'.trans (b5.mono b4'.size)
  clear b4' b5
  go_wp2_with fail
  refine (ref_fold a _ ha).mono ?_
  rintro e w6 ⟨rfl, b6⟩
  have b6' := b5'.trans (b6.mono b5'.size)
  clear b5' b6
  go_wp2_with fail
  refine (same_any a b _ ha hb).mono ?_
  rintro e w7 ⟨rfl, b7⟩
  have b7' := b6'.trans (b7.mono b6'.size)
  clear b6' b7
  go_wp2_with fail
  refine (ref_fold a _ ha).mono ?_
  rintro e w8 ⟨rfl, b8⟩
  have b8' := b7'.trans (b8.mono b7'.size)
  clear b7' b8
  go_wp2_with fail
  refine (ref_fold b _ hb).mono ?_
  rintro e w9 ⟨rfl, b9⟩
  have b9' := b8'.trans (b9.mono b8'.size)
  clear b8' b9
  go_wp2_with fail
  refine (short_any a n _ (by omega) hn).mono ?_
  rintro e w10 ⟨rfl, b10⟩
  have b10' := b9'.trans (b10.mono b9'.size)
  clear b9' b10
  go_wp2_with fail
  refine (ref_short a n _ (by omega) hn).mono ?_
  rintro e w11 ⟨rfl, b11⟩
  have b11' := b10'.trans (b11.mono b10'.size)
  clear b10' b11
  go_wp2_with fail
  go_ret
  exact ⟨rfl, b11'⟩

theorem short_list (s : ByteArray) (n : Int) : short s n = ⟨(s.data.toList.take (shortAt s n)).toArray⟩ := by
  apply ByteArray.ext
  rw [short, ByteArray.data_extract]
  apply Array.ext'
  rw [Array.toList_extract]
  simp only [List.extract_eq_take_drop, List.drop_zero, Nat.sub_zero, List.toList_toArray]
theorem i64_small (n : Int) (h : -1000 ≤ n ∧ n ≤ 1000) : I64 n := by unfold I64; omega
theorem known_any (w : World) : Calls Try.prog 8 #[] w (Yes w) := by
  go_enter Try.func8, Try.ntmps8
  go_wp2_with fail
  refine (fold_any _ _ (by decide)).mono ?_
  rintro e w1 ⟨rfl, b1⟩
  rw [show foldB ⟨#[72, 105]⟩ = ⟨#[104, 105]⟩ by kernel_rfl]
  go_wp2_with fail
  refine (right_any _ _ (by decide)).mono ?_
  rintro e w2 ⟨rfl, b2⟩
  have b2' := b1.trans (b2.mono b1.size)
  clear b1 b2
  rw [show right ⟨#[]⟩ = false by decide]
  go_wp2_with fail
  refine (right_any _ _ (by decide)).mono ?_
  rintro e w3 ⟨rfl, b3⟩
  have b3' := b2'.trans (b3.mono b2'.size)
  clear b2' b3
  rw [show right ⟨#[97, 45, 90, 95, 57]⟩ = true by decide]
  go_wp2_with fail
  refine (right_any _ _ (by decide)).mono ?_
  rintro e w4 ⟨rfl, b4⟩
  have b4' := b3'.trans (b4.mono b3'.size)
  clear b3' b4
  rw [show right ⟨#[97, 46, 98]⟩ = false by decide]
  go_wp2_with fail
  refine (count_any _ _ (by decide)).mono ?_
  rintro e w5 ⟨rfl, b5⟩
  have b5' := b4'.trans (b5.mono b4'.size)
  clear b4' b5
  rw [show cnt ⟨#[97, 255, 228, 184, 150]⟩ = 3 by decide]
  go_wp2_with fail
  refine (short_any _ _ _ (by decide) (i64_small 2 (by omega))).mono ?_
  rintro e w6 ⟨rfl, b6⟩
  have b6' := b5'.trans (b6.mono b5'.size)
  clear b5' b6
  rw [show short ⟨#[97, 98, 99]⟩ 2 = ⟨#[97, 98]⟩ by kernel_rfl]
  go_wp2_with fail
  refine (short_any _ _ _ (by decide) (i64_small 1 (by omega))).mono ?_
  rintro e w7 ⟨rfl, b7⟩
  have b7' := b6'.trans (b7.mono b6'.size)
  clear b6' b7
  rw [show short ⟨#[228, 184, 150, 98]⟩ 1 = ⟨#[228, 184, 150]⟩ by kernel_rfl]
  go_wp2_with fail
  refine (same_any _ _ _ (by decide) (by decide)).mono ?_
  rintro e w8 ⟨rfl, b8⟩
  have b8' := b7'.trans (b8.mono b7'.size)
  clear b7' b8
  rw [show ((foldB ⟨#[72, 73]⟩).toList == (foldB ⟨#[104, 105]⟩).toList) = true by kernel_rfl]
  go_wp2_with fail
  refine (same_any _ _ _ (by decide) (by decide)).mono ?_
  rintro e w9 ⟨rfl, b9⟩
  have b9' := b8'.trans (b9.mono b8'.size)
  clear b8' b9
  rw [show ((foldB ⟨#[97]⟩).toList == (foldB ⟨#[98]⟩).toList) = false by kernel_rfl]
  go_wp2_with fail
  refine (short_any _ _ _ (by decide) (i64_small (-1) (by omega))).mono ?_
  rintro e w10 ⟨rfl, b10⟩
  have b10' := b9'.trans (b10.mono b9'.size)
  clear b9' b10
  rw [show short ⟨#[97, 98, 99]⟩ (-1) = ⟨#[]⟩ by kernel_rfl]
  go_wp2_with fail
  refine (right_any _ _ (by decide)).mono ?_
  rintro e w11 ⟨rfl, b11⟩
  have b11' := b10'.trans (b11.mono b10'.size)
  clear b10' b11
  rw [show right ⟨#[49, 50, 51, 52, 53, 54, 55, 56, 57]⟩ = false by decide]
  go_wp2_with fail
  go_ret
  exact ⟨rfl, b11'⟩
end Go.Proofs.Ythdefkcdpjlmiaa
