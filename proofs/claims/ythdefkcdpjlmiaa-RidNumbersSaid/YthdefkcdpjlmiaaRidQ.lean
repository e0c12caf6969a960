/- The walk of layer 2's law RidParts. -/
import Derived.Test.YthdefkcdpjlmiaaRidT
import Derived.Deep.CutRange
namespace Go.Proofs.Ythdefkcdpjlmiaa
open Go.RowKit
set_option linter.unusedVariables false
set_option linter.unusedSimpArgs false

theorem shortAt_le (s : ByteArray) (n : Int) : shortAt s n ≤ s.size := cutL_le _ _
theorem short_data (s : ByteArray) (n : Int) : (short s n).data.toList = s.data.toList.take (shortAt s n) := by
  rw [short_list]
theorem short_size (s : ByteArray) (n : Int) : (short s n).size = shortAt s n := by
  have := congrArg List.length (short_data s n)
  rw [size_list, List.length_take, size_list] at this
  have := shortAt_le s n
  omega
/-- What is behind the first runes. -/
def rest (s : ByteArray) (n : Int) : ByteArray := s.extract (short s n).size s.size
theorem rest_data (s : ByteArray) (n : Int) : (rest s n).data.toList = s.data.toList.drop (shortAt s n) := by
  rw [rest, ByteArray.data_extract, Array.toList_extract]
  simp only [List.extract_eq_take_drop, short_size]
  exact List.take_of_length_le (by rw [List.length_drop]; exact Nat.le_refl _)
theorem rest_size (s : ByteArray) (n : Int) : (rest s n).size ≤ s.size := by
  rw [rest, ByteArray.size_extract]
  omega
theorem cnt_parts (s : ByteArray) (n : Int) : cnt (short s n) + cnt (rest s n) = cnt s := by
  unfold cnt
  rw [short_data, rest_data, shortAt, rn_take, rn_drop, List.length_take, List.length_drop]
  omega
theorem cnt_short (s : ByteArray) (n : Int) : cnt (short s n) = min n.toNat (cnt s) := by
  unfold cnt
  rw [short_data, shortAt, rn_take, List.length_take]
theorem fold_parts (s : ByteArray) (n : Int) : foldB (short s n) ++ foldB (rest s n) = foldB s := by
  rw [foldB, foldB, cat_list, foldB]
  unfold fold
  rw [short_data, rest_data, shortAt, rn_take, rn_drop, ← enc_append, ← List.map_append, List.take_append_drop]
theorem foldB_foldB (s : ByteArray) : foldB (foldB s) = foldB s := by
  rw [foldB, fold_foldB, foldB]
theorem foldB_size (s : ByteArray) : (foldB s).size ≤ 4 * s.size := by
  rw [foldB, size_mk]
  exact fold_len s
/-! ### The region's operations -/
theorem add_ii (x y : Operand) (a b c : Int) (h : a + b = c) (hc : I64 c) (w : World) : (do eqGuard .add 3 x y (.int .i64 a) (.int .i64 b); binOp .add 3 (.int .i64 a) (.int .i64 b) : Sem Value).run Try.prog w = .ok (.int .i64 c) w := by
  subst h
  unfold I64 at hc
  have hw := IntKind.wrap_i64 (a + b)
  simp [eqGuard, go_sem]
  omega
theorem and_ii (x y : Operand) (a b : Int) (w : World) : (do eqGuard .and 3 x y (.int .i64 a) (.int .i64 b); binOp .and 3 (.int .i64 a) (.int .i64 b) : Sem Value).run Try.prog w = .ok (.int .i64 (bits .and .i64 a b)) w := by
  simp [eqGuard, go_sem]
theorem add_ss (x y : Operand) (a b c : ByteArray) (h : a ++ b = c) (hs : a.size + b.size ≤ 9223372036854775807) (w : World) : (do eqGuard .add 9 x y (.string a) (.string b); binOp .add 9 (.string a) (.string b) : Sem Value).run Try.prog w = .ok (.string c) w := by
  subst h
  have := run_string_add_sum (P := Try.prog) w a b hs
  simp only [eqGuard, binOp_string_add, go_sem]
  simpa using this
theorem min_ss (a b c : Int) (h : min a b = c) (w : World) (cs : Array Bool) : (builtin .min #[3, 3] 3 cs #[.int .i64 a, .int .i64 b]).run Try.prog w = .ok (.value (.int .i64 c)) w := by
  subst h
  simp [builtin, go_sem]
theorem from_s (s : ByteArray) (n : Int) (w : World) : (Instr.sliceAt 9 (.string s) (some (.int .i64 ((short s n).size : Nat))) none none).run Try.prog w = .ok (.string (rest s n)) w := by
  have h1 := shortAt_le s n
  have h2 := short_size s n
  have hc : (0 : Int) ≤ ((short s n).size : Nat) ∧ (((short s n).size : Nat) : Int) ≤ (s.size : Int) := by omega
  simp [go_sem, hc]
  rfl
theorem fold_fix (s : ByteArray) (w : World) (hs : s.size ≤ 1099511627776) : Calls Try.prog 10 #[.string (foldB s)] w (Ans (.string (foldB s)) w) := by
  have h := fold_any (foldB s) w (by have := foldB_size s; omega)
  rwa [foldB_foldB] at h
theorem right_fix (s : ByteArray) (w : World) (hs : s.size ≤ 1099511627776) : Calls Try.prog 12 #[.string (foldB s)] w (Ans (.bool (right s)) w) := by
  have h := right_any (foldB s) w (by have := foldB_size s; omega)
  rwa [right_foldB] at h
theorem same_fix (s : ByteArray) (w : World) (hs : s.size ≤ 1099511627776) : Calls Try.prog 13 #[.string s, .string (foldB s)] w (Ans (.bool true) w) := by
  have h := same_any s (foldB s) w (by omega) (by have := foldB_size s; omega)
  rw [foldB_foldB, beq_self_eq_true] at h
  exact h
theorem prefix_eq (s : ByteArray) (n : Int) : s.extract 0 (short s n).size = short s n := by
  rw [short_size]
  rfl
theorem i64_and31 (n : Int) : bits .and .i64 n 31 = n % 32 := by
  have h31 : (BitVec.ofInt 64 31).toNat = 2 ^ 5 - 1 := by decide
  have key : (BitVec.ofInt 64 n &&& BitVec.ofInt 64 31).toNat = (n % ((2 ^ 64 : Nat) : Int)).toNat % 2 ^ 5 := by
    rw [BitVec.toNat_and, BitVec.toNat_ofInt, h31, Nat.and_two_pow_sub_one_eq_mod]
  show IntKind.i64.wrap ((BitVec.ofInt 64 n &&& BitVec.ofInt 64 31).toNat : Nat) = n % 32
  rw [key, IntKind.wrap_i64]
  omega
theorem upto_s (s : ByteArray) (n : Int) (w : World) : (Instr.slice 9 (.string s) none (some (.int .i64 ((short s n).size : Nat))) none).run Try.prog w = .ok (.string (short s n)) w := by
  have h1 := shortAt_le s n
  have h2 := short_size s n
  have hc : (0 : Int) ≤ ((short s n).size : Nat) ∧ (((short s n).size : Nat) : Int) ≤ (s.size : Int) := by omega
  rw [run_slice_string_to_if _ _ s .i64 _ Try.underlying9, if_pos hc]
  rw [show (((short s n).size : Nat) : Int).toNat = (short s n).size by omega, prefix_eq]
set_option maxHeartbeats 2000000 in
theorem ridParts_walk (s : ByteArray) (n : Int) (w : World) (hs : s.size ≤ 140737488351232) (hn : I64 n) : Calls Try.prog 5 #[.string s, .int .i64 n] w (Yes w) := by
  obtain ⟨K, hK0, hK1, hKe⟩ : ∃ K, 0 ≤ K ∧ K ≤ 31 ∧ bits .and .i64 n 31 = K := ⟨n % 32, by omega, by omega, i64_and31 n⟩
  go_enter Try.func5, Try.ntmps5
  go_upto_if 9 with (fail)
  go_cut [0] from 7 to 11 (fun s0 wc => ∃ X : ByteArray, X.size ≤ 90 ∧ s0 = .string X ∧ wc = w)
  case first =>
    have sz := cut_size s 90
    by_cases ga : 90 < s.size
    · go_wp2_with fail
      go_meet
      case rel => exact ⟨_, sz, rfl, rfl⟩
    · go_wp2_with fail
      go_meet
      case rel => exact ⟨s, by omega, rfl, rfl⟩
  case rest =>
    obtain ⟨X, hz, rfl, rfl⟩ := hcut
    have hnl : ¬ X.size < (short X K).size := by
      have h1 := shortAt_le X K
      have h2 := short_size X K
      omega
    have hle : decide ((X.size : Int) < ((short X K).size : Int)) = false := by simp; omega
    have hsl := fun W => upto_s X K W
    go_wp2_with fail
    refine (short_any X K _ (by omega) (by unfold I64; omega)).mono ?_
    rintro e w1 ⟨rfl, b1⟩
    go_wp2_with fail
    refine (fold_any X _ (by omega)).mono ?_
    rintro e w2 ⟨rfl, b2⟩
    have b2' := b1.trans (b2.mono b1.size)
    have hR := rest_size X K
    have hS := short_size X K
    have hA := shortAt_le X K
    have hC := cnt_le X
    have hP : ((cnt (short X K) : Nat) : Int) + ((cnt (rest X K) : Nat) : Int) = ((cnt X : Nat) : Int) := by
      have := cnt_parts X K
      omega
    have hM : min K ((cnt X : Nat) : Int) = ((cnt (short X K) : Nat) : Int) := by
      have := cnt_short X K
      omega
    have hG1 := foldB_size (short X K)
    have hG2 := foldB_size (rest X K)
    go_wp2_with fail
    refine wp_region_tbl [.val (.string (short X K)), .val (.int .i64 ((cnt (short X K) : Nat) : Int)), .val (.string X), .val (.string (short X K)), .val (.int .i64 ((short X K).size : Nat)), .val (.string (rest X K)), .val (.int .i64 ((cnt (rest X K) : Nat) : Int)), .val (.int .i64 ((cnt X : Nat) : Int)), .val (.string X), .val (.int .i64 ((cnt X : Nat) : Int)), .val (.bool true), .val (.bool true), .val (.string (short X K)), .val (.int .i64 ((cnt (short X K) : Nat) : Int)), .val (.int .i64 n), .val (.int .i64 K), .val (.string X), .val (.int .i64 ((cnt X : Nat) : Int)), .val (.int .i64 ((cnt (short X K) : Nat) : Int)), .val (.bool true), .val (.bool true), .val (.bool true), .val (.string (foldB X)), .val (.string (foldB X)), .val (.string (foldB X)), .val (.bool true), .val (.bool true), .val (.bool true), .val (.string (foldB X)), .val (.bool (right X)), .val (.string X), .val (.bool (right X)), .val (.bool true), .val (.bool true), .val (.bool true), .val (.string X), .val (.string (foldB X)), .val (.bool true), .val (.bool true), .val (.bool true), .val (.string (short X K)), .val (.string (foldB (short X K))), .val (.string X), .val (.string (short X K)), .val (.int .i64 ((short X K).size : Nat)), .val (.string (rest X K)), .val (.string (foldB (rest X K))), .val (.string (foldB X)), .val (.string (foldB X)), .val (.bool true), .val (.bool true), .val (.bool true), .val (.bool true), .val (.bool true), .val (.bool true)] (by kernel_rfl) (by kernel_rfl) (by kernel_rfl) (AllObl.all ⟨?_, ?_, ?_, ?_, ?_, ?_, ?_, ?_, ?_, ?_, ?_, ?_, ?_, ?_, ?_, ?_, ?_, ?_, ?_, ?_, ?_, ?_, ?_, ?_, ?_, ?_, ?_, ?_, ?_, ?_, ?_, ?_, ?_, ?_, ?_, ?_, ?_, ?_, ?_, ?_, ?_, ?_, ?_, ?_, ?_, ?_, ?_, ?_, ?_, ?_, ?_, ?_, ?_, ?_, ?_, trivial⟩) ?_
    · exact Obl.move trivial _ (Or.inl rfl) (by kernel_rfl)
    · exact Obl.call trivial 11 #[.tmp 31] _ rfl Try.f11 Try.func11 (by kernel_rfl) (by kernel_rfl) (fun ev w hb hx => by
        have e31 : ev (.tmp 31) = .string (short X K) := holds_val (hx (.tmp 31)) (by kernel_rfl)
        simp only [List.map_toArray, List.map_cons, List.map_nil, e31]
        exact (count_any (short X K) _ (by omega)).mono fun _ _ hh => hh.holds (by kernel_rfl))
    · exact Obl.move trivial _ (Or.inl rfl) (by kernel_rfl)
    · exact Obl.move trivial _ (Or.inl rfl) (by kernel_rfl)
    · exact Obl.lenS (x := (.tmp 34)) trivial _ Try.underlying9 rfl ((short X K)) (by kernel_rfl) (by kernel_rfl)
    · exact Obl.cutLo trivial _ (.tmp 33) (.tmp 35) rfl (.string X) (.int .i64 ((short X K).size : Nat)) (.string (rest X K)) (by kernel_rfl) (by kernel_rfl) (from_s X K) (by kernel_rfl)
    · exact Obl.call trivial 11 #[.tmp 36] _ rfl Try.f11 Try.func11 (by kernel_rfl) (by kernel_rfl) (fun ev w hb hx => by
        have e36 : ev (.tmp 36) = .string (rest X K) := holds_val (hx (.tmp 36)) (by kernel_rfl)
        simp only [List.map_toArray, List.map_cons, List.map_nil, e36]
        exact (count_any (rest X K) _ (by omega)).mono fun _ _ hh => hh.holds (by kernel_rfl))
    · exact Obl.bin trivial .add _ (.tmp 32) (.tmp 37) _ rfl (.int .i64 ((cnt (short X K) : Nat) : Int)) (.int .i64 ((cnt (rest X K) : Nat) : Int)) (.int .i64 ((cnt X : Nat) : Int)) (by kernel_rfl) (by kernel_rfl) (fun w => add_ii _ _ _ _ _ hP (by unfold I64; omega) w) (by kernel_rfl)
    · exact Obl.move trivial _ (Or.inl rfl) (by kernel_rfl)
    · exact Obl.call trivial 11 #[.tmp 39] _ rfl Try.f11 Try.func11 (by kernel_rfl) (by kernel_rfl) (fun ev w hb hx => by
        have e39 : ev (.tmp 39) = .string X := holds_val (hx (.tmp 39)) (by kernel_rfl)
        simp only [List.map_toArray, List.map_cons, List.map_nil, e39]
        exact (count_any X _ (by omega)).mono fun _ _ hh => hh.holds (by kernel_rfl))
    · exact Obl.bin trivial .eql _ (.tmp 38) (.tmp 40) _ rfl (.int .i64 ((cnt X : Nat) : Int)) (.int .i64 ((cnt X : Nat) : Int)) (.bool true) (by kernel_rfl) (by kernel_rfl) (fun w => by simp [eqGuard, go_sem]) (by kernel_rfl)
    · exact Obl.move trivial _ (Or.inl rfl) (by kernel_rfl)
    · exact Obl.move ⟨by kernel_rfl, by kernel_rfl, by kernel_rfl⟩ _ (Or.inl rfl) (by kernel_rfl)
    · exact Obl.call ⟨by kernel_rfl, by kernel_rfl, by kernel_rfl⟩ 11 #[.tmp 43] _ rfl Try.f11 Try.func11 (by kernel_rfl) (by kernel_rfl) (fun ev w hb hx => by
        have e43 : ev (.tmp 43) = .string (short X K) := holds_val (hx (.tmp 43)) (by kernel_rfl)
        simp only [List.map_toArray, List.map_cons, List.map_nil, e43]
        exact (count_any (short X K) _ (by omega)).mono fun _ _ hh => hh.holds (by kernel_rfl))
    · exact Obl.move ⟨by kernel_rfl, by kernel_rfl, by kernel_rfl⟩ _ (Or.inl rfl) (by kernel_rfl)
    · exact Obl.bin ⟨by kernel_rfl, by kernel_rfl, by kernel_rfl⟩ .and _ (.tmp 45) (.const (.int .i64 31)) _ rfl (.int .i64 n) (.int .i64 31) (.int .i64 K) (by kernel_rfl) (by kernel_rfl) (fun w => (and_ii _ _ n 31 w).trans (by rw [hKe])) (by kernel_rfl)
    · exact Obl.move ⟨by kernel_rfl, by kernel_rfl, by kernel_rfl⟩ _ (Or.inl rfl) (by kernel_rfl)
    · exact Obl.call ⟨by kernel_rfl, by kernel_rfl, by kernel_rfl⟩ 11 #[.tmp 47] _ rfl Try.f11 Try.func11 (by kernel_rfl) (by kernel_rfl) (fun ev w hb hx => by
        have e47 : ev (.tmp 47) = .string X := holds_val (hx (.tmp 47)) (by kernel_rfl)
        simp only [List.map_toArray, List.map_cons, List.map_nil, e47]
        exact (count_any X _ (by omega)).mono fun _ _ hh => hh.holds (by kernel_rfl))
    · exact Obl.bi2 ⟨by kernel_rfl, by kernel_rfl, by kernel_rfl⟩ .min (.tmp 46) (.tmp 48) _ rfl (.int .i64 K) (.int .i64 ((cnt X : Nat) : Int)) (.int .i64 ((cnt (short X K) : Nat) : Int)) (by kernel_rfl) (by kernel_rfl) (fun w cs => min_ss _ _ _ hM w cs) (by kernel_rfl)
    · exact Obl.bin ⟨by kernel_rfl, by kernel_rfl, by kernel_rfl⟩ .eql _ (.tmp 44) (.tmp 49) _ rfl (.int .i64 ((cnt (short X K) : Nat) : Int)) (.int .i64 ((cnt (short X K) : Nat) : Int)) (.bool true) (by kernel_rfl) (by kernel_rfl) (fun w => by simp [eqGuard, go_sem]) (by kernel_rfl)
    · exact Obl.pick trivial _ _ _ rfl true (by kernel_rfl) (by kernel_rfl)
    · exact Obl.move trivial _ (Or.inl rfl) (by kernel_rfl)
    · exact Obl.move ⟨by kernel_rfl, by kernel_rfl, by kernel_rfl⟩ _ (Or.inl rfl) (by kernel_rfl)
    · exact Obl.call ⟨by kernel_rfl, by kernel_rfl, by kernel_rfl⟩ 10 #[.tmp 53] _ rfl Try.f10 Try.func10 (by kernel_rfl) (by kernel_rfl) (fun ev w hb hx => by
        have e53 : ev (.tmp 53) = .string (foldB X) := holds_val (hx (.tmp 53)) (by kernel_rfl)
        simp only [List.map_toArray, List.map_cons, List.map_nil, e53]
        exact (fold_fix X _ (by omega)).mono fun _ _ hh => hh.holds (by kernel_rfl))
    · exact Obl.move ⟨by kernel_rfl, by kernel_rfl, by kernel_rfl⟩ _ (Or.inl rfl) (by kernel_rfl)
    · exact Obl.bin ⟨by kernel_rfl, by kernel_rfl, by kernel_rfl⟩ .eql _ (.tmp 54) (.tmp 55) _ rfl (.string (foldB X)) (.string (foldB X)) (.bool true) (by kernel_rfl) (by kernel_rfl) (eql_str _ _ _) (by kernel_rfl)
    · exact Obl.pick trivial _ _ _ rfl true (by kernel_rfl) (by kernel_rfl)
    · exact Obl.move trivial _ (Or.inl rfl) (by kernel_rfl)
    · exact Obl.move ⟨by kernel_rfl, by kernel_rfl, by kernel_rfl⟩ _ (Or.inl rfl) (by kernel_rfl)
    · exact Obl.call ⟨by kernel_rfl, by kernel_rfl, by kernel_rfl⟩ 12 #[.tmp 59] _ rfl Try.f12 Try.func12 (by kernel_rfl) (by kernel_rfl) (fun ev w hb hx => by
        have e59 : ev (.tmp 59) = .string (foldB X) := holds_val (hx (.tmp 59)) (by kernel_rfl)
        simp only [List.map_toArray, List.map_cons, List.map_nil, e59]
        exact (right_fix X _ (by omega)).mono fun _ _ hh => hh.holds (by kernel_rfl))
    · exact Obl.move ⟨by kernel_rfl, by kernel_rfl, by kernel_rfl⟩ _ (Or.inl rfl) (by kernel_rfl)
    · exact Obl.call ⟨by kernel_rfl, by kernel_rfl, by kernel_rfl⟩ 12 #[.tmp 61] _ rfl Try.f12 Try.func12 (by kernel_rfl) (by kernel_rfl) (fun ev w hb hx => by
        have e61 : ev (.tmp 61) = .string X := holds_val (hx (.tmp 61)) (by kernel_rfl)
        simp only [List.map_toArray, List.map_cons, List.map_nil, e61]
        exact (right_any X _ (by omega)).mono fun _ _ hh => hh.holds (by kernel_rfl))
    · exact Obl.bin ⟨by kernel_rfl, by kernel_rfl, by kernel_rfl⟩ .eql _ (.tmp 60) (.tmp 62) _ rfl (.bool (right X)) (.bool (right X)) (.bool true) (by kernel_rfl) (by kernel_rfl) (fun w => by simp [eqGuard, go_sem]) (by kernel_rfl)
    · exact Obl.pick trivial _ _ _ rfl true (by kernel_rfl) (by kernel_rfl)
    · exact Obl.move trivial _ (Or.inl rfl) (by kernel_rfl)
    · exact Obl.move ⟨by kernel_rfl, by kernel_rfl, by kernel_rfl⟩ _ (Or.inl rfl) (by kernel_rfl)
    · exact Obl.move ⟨by kernel_rfl, by kernel_rfl, by kernel_rfl⟩ _ (Or.inl rfl) (by kernel_rfl)
    · exact Obl.call ⟨by kernel_rfl, by kernel_rfl, by kernel_rfl⟩ 13 #[.tmp 66, .tmp 67] _ rfl Try.f13 Try.func13 (by kernel_rfl) (by kernel_rfl) (fun ev w hb hx => by
        have e66 : ev (.tmp 66) = .string X := holds_val (hx (.tmp 66)) (by kernel_rfl)
        have e67 : ev (.tmp 67) = .string (foldB X) := holds_val (hx (.tmp 67)) (by kernel_rfl)
        simp only [List.map_toArray, List.map_cons, List.map_nil, e66, e67]
        exact (same_fix X _ (by omega)).mono fun _ _ hh => hh.holds (by kernel_rfl))
    · exact Obl.pick trivial _ _ _ rfl true (by kernel_rfl) (by kernel_rfl)
    · exact Obl.move trivial _ (Or.inl rfl) (by kernel_rfl)
    · exact Obl.move ⟨by kernel_rfl, by kernel_rfl, by kernel_rfl⟩ _ (Or.inl rfl) (by kernel_rfl)
    · exact Obl.call ⟨by kernel_rfl, by kernel_rfl, by kernel_rfl⟩ 10 #[.tmp 71] _ rfl Try.f10 Try.func10 (by kernel_rfl) (by kernel_rfl) (fun ev w hb hx => by
        have e71 : ev (.tmp 71) = .string (short X K) := holds_val (hx (.tmp 71)) (by kernel_rfl)
        simp only [List.map_toArray, List.map_cons, List.map_nil, e71]
        exact (fold_any (short X K) _ (by omega)).mono fun _ _ hh => hh.holds (by kernel_rfl))
    · exact Obl.move ⟨by kernel_rfl, by kernel_rfl, by kernel_rfl⟩ _ (Or.inl rfl) (by kernel_rfl)
    · exact Obl.move ⟨by kernel_rfl, by kernel_rfl, by kernel_rfl⟩ _ (Or.inl rfl) (by kernel_rfl)
    · exact Obl.lenS (x := (.tmp 74)) ⟨by kernel_rfl, by kernel_rfl, by kernel_rfl⟩ _ Try.underlying9 rfl ((short X K)) (by kernel_rfl) (by kernel_rfl)
    · exact Obl.cutLo ⟨by kernel_rfl, by kernel_rfl, by kernel_rfl⟩ _ (.tmp 73) (.tmp 75) rfl (.string X) (.int .i64 ((short X K).size : Nat)) (.string (rest X K)) (by kernel_rfl) (by kernel_rfl) (from_s X K) (by kernel_rfl)
    · exact Obl.call ⟨by kernel_rfl, by kernel_rfl, by kernel_rfl⟩ 10 #[.tmp 76] _ rfl Try.f10 Try.func10 (by kernel_rfl) (by kernel_rfl) (fun ev w hb hx => by
        have e76 : ev (.tmp 76) = .string (rest X K) := holds_val (hx (.tmp 76)) (by kernel_rfl)
        simp only [List.map_toArray, List.map_cons, List.map_nil, e76]
        exact (fold_any (rest X K) _ (by omega)).mono fun _ _ hh => hh.holds (by kernel_rfl))
    · exact Obl.bin ⟨by kernel_rfl, by kernel_rfl, by kernel_rfl⟩ .add _ (.tmp 72) (.tmp 77) _ rfl (.string (foldB (short X K))) (.string (foldB (rest X K))) (.string (foldB X)) (by kernel_rfl) (by kernel_rfl) (fun w => add_ss _ _ _ _ _ (fold_parts X K) (by omega) w) (by kernel_rfl)
    · exact Obl.move ⟨by kernel_rfl, by kernel_rfl, by kernel_rfl⟩ _ (Or.inl rfl) (by kernel_rfl)
    · exact Obl.bin ⟨by kernel_rfl, by kernel_rfl, by kernel_rfl⟩ .eql _ (.tmp 78) (.tmp 79) _ rfl (.string (foldB X)) (.string (foldB X)) (.bool true) (by kernel_rfl) (by kernel_rfl) (eql_str _ _ _) (by kernel_rfl)
    · exact Obl.pick trivial _ _ _ rfl true (by kernel_rfl) (by kernel_rfl)
    · exact Obl.move trivial _ (Or.inl rfl) (by kernel_rfl)
    · exact Obl.call ⟨by kernel_rfl, by kernel_rfl, by kernel_rfl⟩ 8 #[] _ rfl Try.f8 Try.func8 (by kernel_rfl) (by kernel_rfl) (fun ev w hb hx => by
        simp only [List.map_toArray, List.map_nil]
        exact (known_any _).mono fun _ _ hh => hh.holds (by kernel_rfl))
    · exact Obl.pick trivial _ _ _ rfl true (by kernel_rfl) (by kernel_rfl)
    · exact Obl.move trivial _ (Or.inr rfl) (by kernel_rfl)
    intro a w4 hb hsz hdf hold hv
    have h8 : a.tmps.getD 4 undef = .bool true := holds_val (hv 54 4 (by kernel_rfl)) (by kernel_rfl)
    obtain ⟨tm, df⟩ := a
    have hdf' : df = [] := hdf
    subst hdf'
    go_wp2
    go_ret
    exact ⟨congrArg _ h8, b2'.drew.trans (hb.mono b2'.size)⟩
end Go.Proofs.Ythdefkcdpjlmiaa
