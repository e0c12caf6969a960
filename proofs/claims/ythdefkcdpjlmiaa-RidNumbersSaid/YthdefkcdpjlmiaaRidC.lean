/- Contracts of package rid and of its book: Short, for any texts. -/
import Derived.Test.YthdefkcdpjlmiaaRidB
import Derived.WalkSpells
namespace Go.Proofs.Ythdefkcdpjlmiaa
open Go.RowKit
set_option linter.unusedVariables false
set_option linter.unusedSimpArgs false

theorem clone_any (s : ByteArray) (w : World) (hs : s.size ≤ 281474976710656) : Calls Try.prog 18 #[.string s] w (Ans (.string s) w) := by
  go_enter Try.func18, Try.ntmps18
  go_wp2_with (go_at_call 25; refine (Try.stringslite_Clone _ _ hs).mono ?_; rintro e w' ⟨rfl, hb⟩)
  go_ret
  exact ⟨rfl, hb⟩
theorem extract_all (s : ByteArray) (n : Nat) (h : s.size ≤ n) : s.extract 0 n = s := by
  apply ByteArray.ext
  rw [ByteArray.data_extract]
  apply Array.ext'
  rw [Array.toList_extract]
  simp only [List.extract_eq_take_drop, List.drop_zero, Nat.sub_zero]
  exact List.take_of_length_le h
/-- Cut ahead of rune n. -/
theorem At.cutS {s : ByteArray} {k pos : Nat} (h : At s k pos) {n : Int} (hk : (k : Int) = max n 0) : s.extract 0 pos = short s n := by
  have : n.toNat = k := by omega
  rw [short, shortAt, this, ← h.pos]
/-- There is no rune n. -/
theorem At.wholeS {s : ByteArray} {k pos : Nat} (h : At s k pos) (hp : ¬ pos < s.size) {n : Int} (hk : (k : Int) ≤ max n 0) : short s n = s := by
  have hd := h.done hp
  rw [short, shortAt, cutL_all _ _ (show cnt s ≤ _ by omega), size_list]
  exact extract_all s _ (Nat.le_refl _)
theorem short_any (s : ByteArray) (n : Int) (w : World) (hs : s.size ≤ 281474976710656) (hn : I64 n) : Calls Try.prog 9 #[.string s, .int .i64 n] w (Ans (.string (short s n)) w) := by
  have hc := cnt_le s
  unfold I64 at hn
  go_enter Try.func9, Try.ntmps9
  go_wp2
  go_loopw [1] (fun v wr => ∃ k pos : Nat, v = .int .i64 (n - k) ∧ At s k pos ∧ (k : Int) ≤ max n 0 ∧ wr = w.iter s pos) (fun _ wr => s.size - wr.iterPos w.heap.size)
  case atStart => exact ⟨0, 0, by simp, At.zero s, by omega, rfl⟩
  case round =>
    obtain ⟨k, pos, rfl, hat, hkn, rfl⟩ := hrel
    by_cases hp : pos < s.size
    · have hnx : ∀ ty, (Instr.next (.pointer (some ⟨w.heap.size, 0, none⟩)) true ty).run Try.prog (w.iter s pos) = _ := fun ty => run_next_any w s pos ty hp
      have hlt := hat.lt hp
      have hwd := hat.wide hp
      have hmo := hat.more hp
      have hib := iter_below w s (pos + (Utf8.decode s pos).2)
      have hfi := hat.fits
      revert hmo hwd hnx hib
      generalize (Utf8.decode s pos).1 = r
      generalize (Utf8.decode s pos).2 = d
      intro hnx hwd hmo hib
      by_cases h0 : n - k ≤ 0
      · have hsz : (s.extract 0 pos).size ≤ 281474976710656 := by rw [ByteArray.size_extract]; omega
        go_wp2_with fail
        refine (clone_any _ _ hsz).mono ?_
        rintro e w1 ⟨rfl, b1⟩
        have b1' := hib.trans (b1.mono hib.size)
        go_wp2_with fail
        go_ret
        exact ⟨by rw [hat.cutS (n := n) (by omega)]; rfl, b1'⟩
      · go_wp2_with fail
        go_roundw
        case rel => exact ⟨k + 1, _, by go_num, hmo, by omega, rfl⟩
        case measure =>
          simp only [World.iterPos_iter]
          omega
    · have hnx : ∀ ty, (Instr.next (.pointer (some ⟨w.heap.size, 0, none⟩)) true ty).run Try.prog (w.iter s pos) = _ := fun ty => run_next_end w s pos ty hp
      have hib := iter_below w s pos
      have hwh := hat.wholeS hp hkn
      go_wp2_with fail
      refine (clone_any _ _ hs).mono ?_
      rintro e w1 ⟨rfl, b1⟩
      have b1' := hib.trans (b1.mono hib.size)
      go_wp2_with fail
      go_ret
      exact ⟨by first | rfl | (rw [hwh]; rfl), b1'⟩
theorem ref_short (s : ByteArray) (n : Int) (w : World) (hs : s.size ≤ 281474976710656) (hn : I64 n) : Calls Try.prog 17 #[.string s, .int .i64 n] w (Ans (.string (short s n)) w) := by
  have hc := cnt_le s
  unfold I64 at hn
  go_enter Try.func17, Try.ntmps17
  go_wp2
  go_loopw [5] (fun v wr => ∃ k pos : Nat, v = .int .i64 k ∧ At s k pos ∧ (k : Int) ≤ max n 0 ∧ wr = w.iter s pos) (fun _ wr => s.size - wr.iterPos w.heap.size)
  case atStart => exact ⟨0, 0, by simp, At.zero s, by omega, rfl⟩
  case round =>
    obtain ⟨k, pos, rfl, hat, hkn, rfl⟩ := hrel
    by_cases hp : pos < s.size
    · have hnx : ∀ ty, (Instr.next (.pointer (some ⟨w.heap.size, 0, none⟩)) true ty).run Try.prog (w.iter s pos) = _ := fun ty => run_next_any w s pos ty hp
      have hlt := hat.lt hp
      have hwd := hat.wide hp
      have hmo := hat.more hp
      have hib := iter_below w s (pos + (Utf8.decode s pos).2)
      have hfi := hat.fits
      revert hmo hwd hnx hib
      generalize (Utf8.decode s pos).1 = r
      generalize (Utf8.decode s pos).2 = d
      intro hnx hwd hmo hib
      by_cases hge : max n 0 ≤ (k : Int)
      · go_wp2_with fail
        go_ret
        exact ⟨by rw [← hat.cutS (n := n) (by omega)]; rfl, hib⟩
      · go_wp2_with fail
        go_roundw
        case rel => exact ⟨k + 1, _, by go_num, hmo, by omega, rfl⟩
        case measure =>
          simp only [World.iterPos_iter]
          omega
    · have hnx : ∀ ty, (Instr.next (.pointer (some ⟨w.heap.size, 0, none⟩)) true ty).run Try.prog (w.iter s pos) = _ := fun ty => run_next_end w s pos ty hp
      have hib := iter_below w s pos
      have hwh := hat.wholeS hp hkn
      go_wp2_with fail
      go_ret
      exact ⟨by first | rfl | (rw [hwh]; rfl), hib⟩
end Go.Proofs.Ythdefkcdpjlmiaa
