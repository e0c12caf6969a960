/- The walk of layer 1's law OctetOrder. -/
import Derived.Test.YtpcaanedplbeoaaKnown
namespace Go.Proofs.Ytpcaanedplbeoaa
open Go.RowKit
set_option linter.unusedVariables false
set_option linter.unusedSimpArgs false

/-- A sum of two strings. -/
theorem add_str (x y : List UInt8) (p q : Operand) (h : x.length + y.length ≤ 9223372036854775807) (w : World) : (do eqGuard .add 9 p q (.string ⟨x.toArray⟩) (.string ⟨y.toArray⟩); binOp .add 9 (.string ⟨x.toArray⟩) (.string ⟨y.toArray⟩) : Sem Value).run Try.prog w = .ok (.string ⟨(x ++ y).toArray⟩) w := by
  have h1 := run_string_add_sum (P := Try.prog) w ⟨x.toArray⟩ ⟨y.toArray⟩ (by simpa [ByteArray.size] using h)
  simp [eqGuard, binOp, h1, ByteArray.mk_append_mk]
theorem lss_str (x y : List UInt8) (p q : Operand) (w : World) : (do eqGuard .lss 9 p q (.string ⟨x.toArray⟩) (.string ⟨y.toArray⟩); binOp .lss 9 (.string ⟨x.toArray⟩) (.string ⟨y.toArray⟩) : Sem Value).run Try.prog w = .ok (.bool (Op.bytesLess x y)) w := by
  simp [eqGuard, binOp_string_lss, ByteArray.toList_eq]
theorem lss_u64 (a b : Nat) (p q : Operand) (w : World) : (do eqGuard .lss 24 p q (.int .u64 a) (.int .u64 b); binOp .lss 24 (.int .u64 a) (.int .u64 b) : Sem Value).run Try.prog w = .ok (.bool (decide (a < b))) w := by
  simp [eqGuard, go_sem]

theorem put8 (a : Nat) (ha : a < 18446744073709551616) (w : World) : Calls Try.prog 11 #[.slice none 0 0, .int .u64 a, .int .i64 8] w (Out8 w (be a 8)) := by
  have := put_any none 0 0 [] w (R8.nil _ _ _ _) (by omega) a 8 ha
  rwa [show putL [] a 8 = be a 8 by simp [putL, szB]] at this
set_option maxRecDepth 100000 in
theorem octetOrder_walk (a b : Nat) (A : Option Addr) (n c : Nat) (l : List UInt8) (i : Int) (w : World) (ha : a < 18446744073709551616) (hb8 : b < 18446744073709551616) (h : R8 w w.heap.size A n c l) (hn : n ≤ 140737488351232) (hi : I64 i) :
    Calls Try.prog 6 #[.int .u64 a, .int .u64 b, .slice A n c, .int .i64 i] w (Yes w) := by
  have hl := h.1
  have hn' : n ≤ 140737488355328 := by omega
  go_enter Try.func6, Try.ntmps6
  go_wp2_with fail
  refine (within_any _ _ _ _ hi (by omega) (by omega) (by omega)).mono ?_
  rintro e w3 ⟨r, rfl, k1, k2, rfl⟩
  obtain ⟨k, rfl⟩ := Int.eq_ofNat_of_zero_le k1
  have hk : k ≤ n := by omega
  clear k1 k2
  go_wp2_with fail
  refine (cut_any _ _ _ _ _ h hn' _ _ (by unfold I64; omega)).mono ?_
  rintro e w1 ⟨A1, m1, c1, rfl, hr1, hb1⟩
  rw [show cutL l 0 k = l.take k by simp [cutL, thB, hl]; omega] at hr1
  rw [show thB n 0 k = true by simp [thB]; omega]
  have h1 := h.on hb1
  go_wp2_with fail
  refine (cut_any _ _ _ _ _ h1 hn' _ _ (by unfold I64; omega)).mono ?_
  rintro e w2 ⟨A2, m2, c2, rfl, hr2, hb2⟩
  rw [show cutL l k ((n : Int) - k) = l.drop k by
    simp [cutL, thB, hl, hk]
    rw [show n - k = (l.drop k).length by simp [hl], List.take_length]] at hr2
  rw [show thB n k ((n : Int) - k) = true by simp [thB]; omega]
  have h2 := h1.on hb2
  have b2 := hb1.trans (hb2.mono hb1.size)
  have hr1' := hr1.on hb2
  clear hb1 hb2 hr1 h1 h
  go_wp2_with fail
  refine (cut_any _ _ _ _ _ h2 hn' _ _ (by unfold I64; omega)).mono ?_
  rintro e w3 ⟨A3, m3, c3, rfl, hr3, hb3⟩
  rw [show thB n k ((n : Int) - k + 1) = false by simp [thB]; omega]
  have h3 := (h2.on hb3).drew
  have q1 := (hr1'.on hb3).drew
  have q2 := (hr2.on hb3).drew
  have b3 := b2.trans (hb3.mono b2.size)
  clear hb3 b2 h2 hr1' hr2 hr3
  go_wp2_with fail
  have hless := be_less a b ha hb8
  have hsum : (l.take k).length + (l.drop k).length ≤ 9223372036854775807 := by simp; omega
  refine wp_region_tbl [.val (.int .u64 a), .bytes (be a 8), .val (.string ⟨(be a 8).toArray⟩), .val (.int .u64 b), .bytes (be b 8), .val (.string ⟨(be b 8).toArray⟩), .val (.bool (Op.bytesLess (be a 8) (be b 8))), .val (.int .u64 a), .val (.int .u64 b), .val (.bool (decide (a < b))), .val (.bool true), .val (.bool true), .val (.bool true), .val (.bool true), .val (.bool true), .val (.bool true), .val (.bool true), .val (.bool true), .val (.bool false), .val (.bool true), .val (.bool true), .val (.bool true), .val (.slice A1 m1 c1), .val (.string ⟨(l.take k).toArray⟩), .val (.slice A2 m2 c2), .val (.string ⟨(l.drop k).toArray⟩), .val (.string ⟨(l.take k ++ l.drop k).toArray⟩), .val (.slice A n c), .val (.string ⟨(l).toArray⟩), .val (.bool true), .val (.bool true), .val (.bool true), .val (.bool true), .val (.bool true), .val (.bool true)] (by kernel_rfl) (by kernel_rfl) (by kernel_rfl) (AllObl.all ⟨?_, ?_, ?_, ?_, ?_, ?_, ?_, ?_, ?_, ?_, ?_, ?_, ?_, ?_, ?_, ?_, ?_, ?_, ?_, ?_, ?_, ?_, ?_, ?_, ?_, ?_, ?_, ?_, ?_, ?_, ?_, ?_, ?_, ?_, ?_, trivial⟩) ?_
  · exact Obl.move trivial _ (Or.inl rfl) (by kernel_rfl)
  · exact Obl.call trivial 11 #[.const (.slice none 0 0), .tmp 47, .const (.int .i64 8)] _ rfl Try.f11 Try.func11 (by kernel_rfl) (by kernel_rfl) (fun ev w hb hx => by
      have e47 : ev (.tmp 47) = .int .u64 a := holds_val (hx (.tmp 47)) (by kernel_rfl)
      have k0 : ev (.const (.slice none 0 0)) = (.slice none 0 0) := holds_val (hx (.const (.slice none 0 0))) (by kernel_rfl)
      have k1 : ev (.const (.int .i64 8)) = (.int .i64 8) := holds_val (hx (.const (.int .i64 8))) (by kernel_rfl)
      simp only [List.map_toArray, List.map_cons, List.map_nil, e47, k0, k1]
      exact (put8 a ha w).mono fun _ _ hh => hh.holds (by kernel_rfl))
  · exact Obl.str (x := .tmp 48) trivial 22 5 9 rfl Try.underlying22 Try.underlying5 Try.underlying9 (be a 8) (.inl (by kernel_rfl)) (by kernel_rfl)
  · exact Obl.move trivial _ (Or.inl rfl) (by kernel_rfl)
  · exact Obl.call trivial 11 #[.const (.slice none 0 0), .tmp 50, .const (.int .i64 8)] _ rfl Try.f11 Try.func11 (by kernel_rfl) (by kernel_rfl) (fun ev w hb hx => by
      have e50 : ev (.tmp 50) = .int .u64 b := holds_val (hx (.tmp 50)) (by kernel_rfl)
      have k0 : ev (.const (.slice none 0 0)) = (.slice none 0 0) := holds_val (hx (.const (.slice none 0 0))) (by kernel_rfl)
      have k1 : ev (.const (.int .i64 8)) = (.int .i64 8) := holds_val (hx (.const (.int .i64 8))) (by kernel_rfl)
      simp only [List.map_toArray, List.map_cons, List.map_nil, e50, k0, k1]
      exact (put8 b hb8 w).mono fun _ _ hh => hh.holds (by kernel_rfl))
  · exact Obl.str (x := .tmp 51) trivial 22 5 9 rfl Try.underlying22 Try.underlying5 Try.underlying9 (be b 8) (.inl (by kernel_rfl)) (by kernel_rfl)
  · exact Obl.bin trivial .lss _ (.tmp 49) (.tmp 52) _ rfl (.string ⟨(be a 8).toArray⟩) (.string ⟨(be b 8).toArray⟩) (.bool (Op.bytesLess (be a 8) (be b 8))) (by kernel_rfl) (by kernel_rfl) (lss_str _ _ _ _) (by kernel_rfl)
  · exact Obl.move trivial _ (Or.inl rfl) (by kernel_rfl)
  · exact Obl.move trivial _ (Or.inl rfl) (by kernel_rfl)
  · exact Obl.bin trivial .lss _ (.tmp 54) (.tmp 55) _ rfl (.int .u64 a) (.int .u64 b) (.bool (decide (a < b))) (by kernel_rfl) (by kernel_rfl) (lss_u64 _ _ _ _) (by kernel_rfl)
  · exact Obl.bin trivial .eql _ (.tmp 53) (.tmp 56) _ rfl (.bool (Op.bytesLess (be a 8) (be b 8))) (.bool (decide (a < b))) (.bool true) (by kernel_rfl) (by kernel_rfl) (fun w => by rw [hless]; simp [eqGuard, go_sem]) (by kernel_rfl)
  · exact Obl.move trivial _ (Or.inl rfl) (by kernel_rfl)
  · exact Obl.move ⟨by kernel_rfl, by kernel_rfl, by kernel_rfl⟩ _ (Or.inl rfl) (by kernel_rfl)
  · exact Obl.pick trivial _ _ _ rfl true (by kernel_rfl) (by kernel_rfl)
  · exact Obl.move trivial _ (Or.inl rfl) (by kernel_rfl)
  · exact Obl.move ⟨by kernel_rfl, by kernel_rfl, by kernel_rfl⟩ _ (Or.inl rfl) (by kernel_rfl)
  · exact Obl.pick trivial _ _ _ rfl true (by kernel_rfl) (by kernel_rfl)
  · exact Obl.move trivial _ (Or.inl rfl) (by kernel_rfl)
  · exact Obl.move ⟨by kernel_rfl, by kernel_rfl, by kernel_rfl⟩ _ (Or.inl rfl) (by kernel_rfl)
  · exact Obl.un ⟨by kernel_rfl, by kernel_rfl, by kernel_rfl⟩ .not _ (.tmp 65) rfl (.bool false) (.bool true) (by kernel_rfl) (fun w => by simp [go_sem]) (by kernel_rfl)
  · exact Obl.pick trivial _ _ _ rfl true (by kernel_rfl) (by kernel_rfl)
  · exact Obl.move trivial _ (Or.inl rfl) (by kernel_rfl)
  · exact Obl.move ⟨by kernel_rfl, by kernel_rfl, by kernel_rfl⟩ _ (Or.inl rfl) (by kernel_rfl)
  · exact Obl.str (x := .tmp 69) ⟨by kernel_rfl, by kernel_rfl, by kernel_rfl⟩ 22 5 9 rfl Try.underlying22 Try.underlying5 Try.underlying9 (l.take k) (.inr ⟨A1, m1, c1, by kernel_rfl, q1⟩) (by kernel_rfl)
  · exact Obl.move ⟨by kernel_rfl, by kernel_rfl, by kernel_rfl⟩ _ (Or.inl rfl) (by kernel_rfl)
  · exact Obl.str (x := .tmp 71) ⟨by kernel_rfl, by kernel_rfl, by kernel_rfl⟩ 22 5 9 rfl Try.underlying22 Try.underlying5 Try.underlying9 (l.drop k) (.inr ⟨A2, m2, c2, by kernel_rfl, q2⟩) (by kernel_rfl)
  · exact Obl.bin ⟨by kernel_rfl, by kernel_rfl, by kernel_rfl⟩ .add _ (.tmp 70) (.tmp 72) _ rfl (.string ⟨(l.take k).toArray⟩) (.string ⟨(l.drop k).toArray⟩) (.string ⟨(l.take k ++ l.drop k).toArray⟩) (by kernel_rfl) (by kernel_rfl) (add_str _ _ _ _ hsum) (by kernel_rfl)
  · exact Obl.move ⟨by kernel_rfl, by kernel_rfl, by kernel_rfl⟩ _ (Or.inl rfl) (by kernel_rfl)
  · exact Obl.str (x := .tmp 74) ⟨by kernel_rfl, by kernel_rfl, by kernel_rfl⟩ 22 5 9 rfl Try.underlying22 Try.underlying5 Try.underlying9 (l) (.inr ⟨A, n, c, by kernel_rfl, h3⟩) (by kernel_rfl)
  · exact Obl.bin ⟨by kernel_rfl, by kernel_rfl, by kernel_rfl⟩ .eql _ (.tmp 73) (.tmp 75) _ rfl (.string ⟨(l.take k ++ l.drop k).toArray⟩) (.string ⟨(l).toArray⟩) (.bool true) (by kernel_rfl) (by kernel_rfl) (by rw [List.take_append_drop]; exact eql_str _ _ _) (by kernel_rfl)
  · exact Obl.pick trivial _ _ _ rfl true (by kernel_rfl) (by kernel_rfl)
  · exact Obl.move trivial _ (Or.inl rfl) (by kernel_rfl)
  · exact Obl.call ⟨by kernel_rfl, by kernel_rfl, by kernel_rfl⟩ 9 #[] _ rfl Try.f9 Try.func9 (by kernel_rfl) (by kernel_rfl) (fun ev w hb hx => by
      simp only [List.map_toArray, List.map_nil]
      exact (known_any _).mono fun _ _ hh => hh.holds (by kernel_rfl))
  · exact Obl.pick trivial _ _ _ rfl true (by kernel_rfl) (by kernel_rfl)
  · exact Obl.move trivial _ (Or.inr rfl) (by kernel_rfl)
  intro a w4 hb hsz hdf hold hv
  have h8 : a.tmps.getD 8 undef = .bool true := holds_val (hv 34 8 (by kernel_rfl)) (by kernel_rfl)
  obtain ⟨tm, df⟩ := a
  have hdf' : df = [] := hdf
  subst hdf'
  go_wp2
  go_ret
  exact ⟨congrArg _ h8, b3.drew.trans (hb.mono b3.size)⟩
end Go.Proofs.Ytpcaanedplbeoaa
