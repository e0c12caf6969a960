/- The walk of layer 1's law OctetPads. -/
import Derived.Test.YtpcaanedplbeoaaKnown
namespace Go.Proofs.Ytpcaanedplbeoaa
open Go.RowKit
set_option linter.unusedVariables false
set_option linter.unusedSimpArgs false

theorem padL_padL (l : List UInt8) (k : Nat) (h1 : 1 ≤ k) (h2 : k ≤ 64) : padL (padL l k) k = padL l k := by
  have h := pad_eq l.length k h1 h2
  have e : (padL l k).length = l.length + padN l.length k := by simp [padL]
  have h0 : padN (padL l k).length k = 0 := by
    rw [e]
    generalize l.length + padN l.length k = z at h
    simp [padN, h]
  show padL l k ++ List.replicate (padN (padL l k).length k) 0 = padL l k
  rw [h0]
  simp
theorem padL_len (l : List UInt8) (k : Int) : (padL l k).length ≤ l.length + 64 := by
  have := padN_lt l.length k
  simp [padL]
  omega
/-- One byte, read by Get. -/
theorem getN_one (P : List UInt8) (q : Nat) (hq : q < P.length) : getN P q 1 = (P[q]?.getD 0).toNat := by
  have h : thB P.length (q : Int) 1 = true := by simp [thB]; omega
  have hs : szB 1 = true := by decide
  unfold getN
  rw [if_pos ⟨hs, h⟩]
  have e : (P.drop q).take 1 = [P[q]] := by
    rw [List.drop_eq_getElem_cons hq]
    rfl
  simp [e, num, hq]
theorem getN_head (P : List UInt8) (m : Nat) (hm : m = min P.length 8) : getN P 0 (m : Int) = num (P.take 8) := by
  have e8 : P.take 8 = P.take m := by
    by_cases h8 : P.length ≤ 8
    · rw [List.take_of_length_le h8, List.take_of_length_le (by omega)]
    · rw [show m = 8 by omega]
  rw [e8]
  unfold getN
  by_cases h0 : P.length = 0
  · have : P = [] := List.eq_nil_of_length_eq_zero h0
    subst this
    have hm0 : m = 0 := by simpa using hm
    subst hm0
    rfl
  · rw [if_pos ⟨by simp [szB]; omega, by simp [thB]; omega⟩]
    simp
theorem getB_head (n m : Nat) (hm : m = min n 8) : getB n 0 (m : Int) = decide (0 < n) := by
  unfold getB szB thB
  rw [← Bool.decide_and]
  apply decide_eq_decide.2
  omega
theorem or_one (P : List UInt8) (q : Nat) (hq : q < P.length) (h7 : q ≤ 7) :
    bits BinOp.or IntKind.u64 ((num (P.take q) : Int) * 256) ((getN P q 1 : Nat) : Int) = ((num (P.take (q + 1)) : Nat) : Int) := by
  have h := num_step P q hq h7
  have hb := (P[q]?.getD 0).toNat_lt
  have e1 : IntKind.u64.wrap (((P[q]?.getD 0).toNat : Nat) : Int) = (((P[q]?.getD 0).toNat : Nat) : Int) := by rw [IntKind.wrap_u64]; omega
  rw [e1] at h
  rw [getN_one P q hq]
  exact h

theorem pad_same {A : Option Addr} {n c : Nat} {P : List UInt8} {k : Int} {w : World} (hp : padL P k = P) (h : R8 w w.heap.size A n c P) (hn : n ≤ 140737488355328) :
    Calls Try.prog 13 #[.slice A n c, .int .i64 k] w (Out8 w P) := by
  have := pad_all A n c P w h hn k
  rwa [hp] at this
set_option maxHeartbeats 1000000 in
theorem octetPads_walk (A : Option Addr) (n c : Nat) (l : List UInt8) (t : Int) (w : World) (h : R8 w w.heap.size A n c l) (hn : n ≤ 140737488351232) (hi : I64 t) :
    Calls Try.prog 7 #[.slice A n c, .int .i64 t] w (Yes w) := by
  have hl := Lib.hid h.1
  have hn' : n ≤ 140737488355328 := by omega
  go_enter Try.func7, Try.ntmps7
  go_wp2_with fail
  refine (within_any _ _ _ _ hi (by omega) (by omega) (by omega)).mono ?_
  rintro e w3 ⟨r, rfl, k1, k2, rfl⟩
  obtain ⟨k, rfl⟩ := Int.eq_ofNat_of_zero_le (show 0 ≤ r by omega)
  go_wp2_with fail
  refine (pad_all _ _ _ _ _ h hn' _).mono ?_
  rintro e w1 ⟨A1, N, c1, rfl, hr1, b1⟩
  have hN : N ≤ 140737488355328 := by have := padL_len l k; rw [hr1.1, hl.out] at this; omega
  have hpp := Lib.hid (padL_padL l k (by omega) (by omega))
  clear h
  generalize padL l (k : Int) = P at hr1 hpp
  have hPl := Lib.hid hr1.1
  by_cases hN8 : N ≤ 8
  · go_wp2_with fail
    refine (get_any _ _ _ _ _ hr1 hN 0 _ (by unfold I64; omega)).mono ?_
    rintro e w3 ⟨rfl, rfl⟩
    rw [getN_head P N (by rw [hPl.out]; omega), getB_head N N (by omega)]
    obtain ⟨M, hM⟩ : ∃ M, M = N := ⟨_, rfl⟩
    have hM1 : M ≤ N ∧ M ≤ 8 ∧ (M = N ∨ M = 8) := by omega
    have hT := Lib.hid (show num (P.take M) = num (P.take 8) by rw [List.take_of_length_le (by rw [hPl.out]; omega), List.take_of_length_le (by rw [hPl.out]; omega)])
    clear hM hN8
    go_wp2_with fail
    go_loop [9, 10, 11, 12] (fun x j _ _ => ∃ q : Nat, q ≤ M ∧ j = .int .i64 q ∧ x = .int .u64 (num (P.take q) : Nat)) (fun _ j _ _ => M - (intOf j).toNat)
    case atStart => exact ⟨0, Nat.zero_le _, rfl, by simp [num]⟩
    case round =>
      obtain ⟨q, hq, rfl, rfl⟩ := hrel
      by_cases hlt : q < M
      · have g1 : decide ((q : Int) < (N : Int)) = true := by simp; omega
        have g2 : decide ((q : Int) < 8) = true := by simp; omega
        have hnt := num_take_lt P q (by omega)
        have hst := Lib.hid (or_one P q (by rw [hPl.out]; omega) (by omega))
        have hgb := Lib.hid (show getB N (q : Int) 1 = true by simp [getB, szB, thB]; omega)
        go_wp2_with fail
        refine (get_any _ _ _ _ _ hr1 hN _ _ (by unfold I64; omega)).mono ?_
        rintro e w3 ⟨rfl, rfl⟩
        rw [hgb.out]
        go_wp2
        go_round
        case rel => exact ⟨q + 1, by omega, by go_num, by rw [hst.out]⟩
        case measure => simp [intOf]; omega
      · obtain rfl : q = M := by omega
        have q1 := hr1.drew
        rw [hT.out]
        rcases hM1.2.2 with h8 | h8
        · have g1 : decide ((q : Int) < (N : Int)) = false := by simp; omega
          have g3 : ¬ q < N := by omega
          clear h8
          go_wp2_with fail
          refine wp_region_tbl [.val (.slice A1 N c1), .val (.int .i64 k), .bytes (P), .val (.string ⟨(P).toArray⟩), .val (.slice A1 N c1), .val (.string ⟨(P).toArray⟩), .val (.bool true), .val (.bool true), .val (.bool (decide (0 < N))), .val (.slice A1 N c1), .val (.int .i64 (N : Nat)), .val (.bool (decide (0 < N))), .val (.bool true), .val (.bool true), .val (.bool true), .val (.int .u64 (num (P.take 8) : Nat)), .val (.int .u64 (num (P.take 8) : Nat)), .val (.bool true), .val (.bool true), .val (.bool true), .val (.bool true), .val (.bool true), .val (.bool true)] (by kernel_rfl) (by kernel_rfl) (by kernel_rfl) (AllObl.all ⟨?_, ?_, ?_, ?_, ?_, ?_, ?_, ?_, ?_, ?_, ?_, ?_, ?_, ?_, ?_, ?_, ?_, ?_, ?_, ?_, ?_, ?_, ?_, trivial⟩) ?_
          · exact Obl.move trivial _ (Or.inl rfl) (by kernel_rfl)
          · exact Obl.move trivial _ (Or.inl rfl) (by kernel_rfl)
          · exact Obl.call trivial 13 #[.tmp 48, .tmp 49] _ rfl Try.f13 Try.func13 (by kernel_rfl) (by kernel_rfl) (fun ev w hb hx => by
              have e48 : ev (.tmp 48) = .slice A1 N c1 := holds_val (hx (.tmp 48)) (by kernel_rfl)
              have e49 : ev (.tmp 49) = .int .i64 k := holds_val (hx (.tmp 49)) (by kernel_rfl)
              simp only [List.map_toArray, List.map_cons, List.map_nil, e48, e49]
              exact (pad_same hpp.out (q1.on hb) hN).mono fun _ _ hh => hh.holds (by kernel_rfl))
          · exact Obl.str (x := .tmp 50) trivial 22 5 9 rfl Try.underlying22 Try.underlying5 Try.underlying9 (P) (.inl (by kernel_rfl)) (by kernel_rfl)
          · exact Obl.move trivial _ (Or.inl rfl) (by kernel_rfl)
          · exact Obl.str (x := .tmp 52) trivial 22 5 9 rfl Try.underlying22 Try.underlying5 Try.underlying9 (P) (.inr ⟨A1, N, c1, by kernel_rfl, q1⟩) (by kernel_rfl)
          · exact Obl.bin trivial .eql _ (.tmp 51) (.tmp 53) _ rfl (.string ⟨(P).toArray⟩) (.string ⟨(P).toArray⟩) (.bool true) (by kernel_rfl) (by kernel_rfl) (eql_str _ _ _) (by kernel_rfl)
          · exact Obl.move trivial _ (Or.inl rfl) (by kernel_rfl)
          · exact Obl.move ⟨by kernel_rfl, by kernel_rfl, by kernel_rfl⟩ _ (Or.inl rfl) (by kernel_rfl)
          · exact Obl.move ⟨by kernel_rfl, by kernel_rfl, by kernel_rfl⟩ _ (Or.inl rfl) (by kernel_rfl)
          · exact Obl.lenV (x := (.tmp 57)) ⟨by kernel_rfl, by kernel_rfl, by kernel_rfl⟩ _ _ Try.underlying22 rfl (A1) (N) (c1) (by kernel_rfl) (by kernel_rfl)
          · exact Obl.bin ⟨by kernel_rfl, by kernel_rfl, by kernel_rfl⟩ .gtr _ (.tmp 58) (.const (.int .i64 0)) _ rfl (.int .i64 (N : Nat)) (.int .i64 0) (.bool (decide (0 < N))) (by kernel_rfl) (by kernel_rfl) (fun w => by simp [eqGuard, go_sem]) (by kernel_rfl)
          · exact Obl.bin ⟨by kernel_rfl, by kernel_rfl, by kernel_rfl⟩ .eql _ (.tmp 56) (.tmp 59) _ rfl (.bool (decide (0 < N))) (.bool (decide (0 < N))) (.bool true) (by kernel_rfl) (by kernel_rfl) (fun w => by simp [eqGuard, go_sem]) (by kernel_rfl)
          · exact Obl.pick trivial _ _ _ rfl true (by kernel_rfl) (by kernel_rfl)
          · exact Obl.move trivial _ (Or.inl rfl) (by kernel_rfl)
          · exact Obl.move ⟨by kernel_rfl, by kernel_rfl, by kernel_rfl⟩ _ (Or.inl rfl) (by kernel_rfl)
          · exact Obl.move ⟨by kernel_rfl, by kernel_rfl, by kernel_rfl⟩ _ (Or.inl rfl) (by kernel_rfl)
          · exact Obl.bin ⟨by kernel_rfl, by kernel_rfl, by kernel_rfl⟩ .eql _ (.tmp 63) (.tmp 64) _ rfl (.int .u64 (num (P.take 8) : Nat)) (.int .u64 (num (P.take 8) : Nat)) (.bool true) (by kernel_rfl) (by kernel_rfl) (fun w => by simp [eqGuard, go_sem]) (by kernel_rfl)
          · exact Obl.pick trivial _ _ _ rfl true (by kernel_rfl) (by kernel_rfl)
          · exact Obl.move trivial _ (Or.inl rfl) (by kernel_rfl)
          · exact Obl.call ⟨by kernel_rfl, by kernel_rfl, by kernel_rfl⟩ 9 #[] _ rfl Try.f9 Try.func9 (by kernel_rfl) (by kernel_rfl) (fun ev w hb hx => by
              simp only [List.map_toArray, List.map_nil]
              exact (known_any _).mono fun _ _ hh => hh.holds (by kernel_rfl))
          · exact Obl.pick trivial _ _ _ rfl true (by kernel_rfl) (by kernel_rfl)
          · exact Obl.move trivial _ (Or.inr rfl) (by kernel_rfl)
          intro a w4 hb hsz hdf hold hv
          have h8 : a.tmps.getD 4 undef = .bool true := holds_val (hv 22 4 (by kernel_rfl)) (by kernel_rfl)
          obtain ⟨tm, df⟩ := a
          have hdf' : df = [] := hdf
          subst hdf'
          go_wp2
          go_ret
          exact ⟨congrArg _ h8, b1.drew.trans (hb.mono b1.size)⟩
        · have g1 : decide ((q : Int) < 8) = false := by simp; omega
          have g3 : ¬ q < 8 := by omega
          clear h8
          by_cases h8 : q < N
          · have g2 : decide ((q : Int) < (N : Int)) = true := by simp; omega
            go_wp2_with fail
            refine wp_region_tbl [.val (.slice A1 N c1), .val (.int .i64 k), .bytes (P), .val (.string ⟨(P).toArray⟩), .val (.slice A1 N c1), .val (.string ⟨(P).toArray⟩), .val (.bool true), .val (.bool true), .val (.bool (decide (0 < N))), .val (.slice A1 N c1), .val (.int .i64 (N : Nat)), .val (.bool (decide (0 < N))), .val (.bool true), .val (.bool true), .val (.bool true), .val (.int .u64 (num (P.take 8) : Nat)), .val (.int .u64 (num (P.take 8) : Nat)), .val (.bool true), .val (.bool true), .val (.bool true), .val (.bool true), .val (.bool true), .val (.bool true)] (by kernel_rfl) (by kernel_rfl) (by kernel_rfl) (AllObl.all ⟨?_, ?_, ?_, ?_, ?_, ?_, ?_, ?_, ?_, ?_, ?_, ?_, ?_, ?_, ?_, ?_, ?_, ?_, ?_, ?_, ?_, ?_, ?_, trivial⟩) ?_
            · exact Obl.move trivial _ (Or.inl rfl) (by kernel_rfl)
            · exact Obl.move trivial _ (Or.inl rfl) (by kernel_rfl)
            · exact Obl.call trivial 13 #[.tmp 48, .tmp 49] _ rfl Try.f13 Try.func13 (by kernel_rfl) (by kernel_rfl) (fun ev w hb hx => by
                have e48 : ev (.tmp 48) = .slice A1 N c1 := holds_val (hx (.tmp 48)) (by kernel_rfl)
                have e49 : ev (.tmp 49) = .int .i64 k := holds_val (hx (.tmp 49)) (by kernel_rfl)
                simp only [List.map_toArray, List.map_cons, List.map_nil, e48, e49]
                exact (pad_same hpp.out (q1.on hb) hN).mono fun _ _ hh => hh.holds (by kernel_rfl))
            · exact Obl.str (x := .tmp 50) trivial 22 5 9 rfl Try.underlying22 Try.underlying5 Try.underlying9 (P) (.inl (by kernel_rfl)) (by kernel_rfl)
            · exact Obl.move trivial _ (Or.inl rfl) (by kernel_rfl)
            · exact Obl.str (x := .tmp 52) trivial 22 5 9 rfl Try.underlying22 Try.underlying5 Try.underlying9 (P) (.inr ⟨A1, N, c1, by kernel_rfl, q1⟩) (by kernel_rfl)
            · exact Obl.bin trivial .eql _ (.tmp 51) (.tmp 53) _ rfl (.string ⟨(P).toArray⟩) (.string ⟨(P).toArray⟩) (.bool true) (by kernel_rfl) (by kernel_rfl) (eql_str _ _ _) (by kernel_rfl)
            · exact Obl.move trivial _ (Or.inl rfl) (by kernel_rfl)
            · exact Obl.move ⟨by kernel_rfl, by kernel_rfl, by kernel_rfl⟩ _ (Or.inl rfl) (by kernel_rfl)
            · exact Obl.move ⟨by kernel_rfl, by kernel_rfl, by kernel_rfl⟩ _ (Or.inl rfl) (by kernel_rfl)
            · exact Obl.lenV (x := (.tmp 57)) ⟨by kernel_rfl, by kernel_rfl, by kernel_rfl⟩ _ _ Try.underlying22 rfl (A1) (N) (c1) (by kernel_rfl) (by kernel_rfl)
            · exact Obl.bin ⟨by kernel_rfl, by kernel_rfl, by kernel_rfl⟩ .gtr _ (.tmp 58) (.const (.int .i64 0)) _ rfl (.int .i64 (N : Nat)) (.int .i64 0) (.bool (decide (0 < N))) (by kernel_rfl) (by kernel_rfl) (fun w => by simp [eqGuard, go_sem]) (by kernel_rfl)
            · exact Obl.bin ⟨by kernel_rfl, by kernel_rfl, by kernel_rfl⟩ .eql _ (.tmp 56) (.tmp 59) _ rfl (.bool (decide (0 < N))) (.bool (decide (0 < N))) (.bool true) (by kernel_rfl) (by kernel_rfl) (fun w => by simp [eqGuard, go_sem]) (by kernel_rfl)
            · exact Obl.pick trivial _ _ _ rfl true (by kernel_rfl) (by kernel_rfl)
            · exact Obl.move trivial _ (Or.inl rfl) (by kernel_rfl)
            · exact Obl.move ⟨by kernel_rfl, by kernel_rfl, by kernel_rfl⟩ _ (Or.inl rfl) (by kernel_rfl)
            · exact Obl.move ⟨by kernel_rfl, by kernel_rfl, by kernel_rfl⟩ _ (Or.inl rfl) (by kernel_rfl)
            · exact Obl.bin ⟨by kernel_rfl, by kernel_rfl, by kernel_rfl⟩ .eql _ (.tmp 63) (.tmp 64) _ rfl (.int .u64 (num (P.take 8) : Nat)) (.int .u64 (num (P.take 8) : Nat)) (.bool true) (by kernel_rfl) (by kernel_rfl) (fun w => by simp [eqGuard, go_sem]) (by kernel_rfl)
            · exact Obl.pick trivial _ _ _ rfl true (by kernel_rfl) (by kernel_rfl)
            · exact Obl.move trivial _ (Or.inl rfl) (by kernel_rfl)
            · exact Obl.call ⟨by kernel_rfl, by kernel_rfl, by kernel_rfl⟩ 9 #[] _ rfl Try.f9 Try.func9 (by kernel_rfl) (by kernel_rfl) (fun ev w hb hx => by
                simp only [List.map_toArray, List.map_nil]
                exact (known_any _).mono fun _ _ hh => hh.holds (by kernel_rfl))
            · exact Obl.pick trivial _ _ _ rfl true (by kernel_rfl) (by kernel_rfl)
            · exact Obl.move trivial _ (Or.inr rfl) (by kernel_rfl)
            intro a w4 hb hsz hdf hold hv
            have h8 : a.tmps.getD 4 undef = .bool true := holds_val (hv 22 4 (by kernel_rfl)) (by kernel_rfl)
            obtain ⟨tm, df⟩ := a
            have hdf' : df = [] := hdf
            subst hdf'
            go_wp2
            go_ret
            exact ⟨congrArg _ h8, b1.drew.trans (hb.mono b1.size)⟩
          · have g2 : decide ((q : Int) < (N : Int)) = false := by simp; omega
            go_wp2_with fail
            refine wp_region_tbl [.val (.slice A1 N c1), .val (.int .i64 k), .bytes (P), .val (.string ⟨(P).toArray⟩), .val (.slice A1 N c1), .val (.string ⟨(P).toArray⟩), .val (.bool true), .val (.bool true), .val (.bool (decide (0 < N))), .val (.slice A1 N c1), .val (.int .i64 (N : Nat)), .val (.bool (decide (0 < N))), .val (.bool true), .val (.bool true), .val (.bool true), .val (.int .u64 (num (P.take 8) : Nat)), .val (.int .u64 (num (P.take 8) : Nat)), .val (.bool true), .val (.bool true), .val (.bool true), .val (.bool true), .val (.bool true), .val (.bool true)] (by kernel_rfl) (by kernel_rfl) (by kernel_rfl) (AllObl.all ⟨?_, ?_, ?_, ?_, ?_, ?_, ?_, ?_, ?_, ?_, ?_, ?_, ?_, ?_, ?_, ?_, ?_, ?_, ?_, ?_, ?_, ?_, ?_, trivial⟩) ?_
            · exact Obl.move trivial _ (Or.inl rfl) (by kernel_rfl)
            · exact Obl.move trivial _ (Or.inl rfl) (by kernel_rfl)
            · exact Obl.call trivial 13 #[.tmp 48, .tmp 49] _ rfl Try.f13 Try.func13 (by kernel_rfl) (by kernel_rfl) (fun ev w hb hx => by
                have e48 : ev (.tmp 48) = .slice A1 N c1 := holds_val (hx (.tmp 48)) (by kernel_rfl)
                have e49 : ev (.tmp 49) = .int .i64 k := holds_val (hx (.tmp 49)) (by kernel_rfl)
                simp only [List.map_toArray, List.map_cons, List.map_nil, e48, e49]
                exact (pad_same hpp.out (q1.on hb) hN).mono fun _ _ hh => hh.holds (by kernel_rfl))
            · exact Obl.str (x := .tmp 50) trivial 22 5 9 rfl Try.underlying22 Try.underlying5 Try.underlying9 (P) (.inl (by kernel_rfl)) (by kernel_rfl)
            · exact Obl.move trivial _ (Or.inl rfl) (by kernel_rfl)
            · exact Obl.str (x := .tmp 52) trivial 22 5 9 rfl Try.underlying22 Try.underlying5 Try.underlying9 (P) (.inr ⟨A1, N, c1, by kernel_rfl, q1⟩) (by kernel_rfl)
            · exact Obl.bin trivial .eql _ (.tmp 51) (.tmp 53) _ rfl (.string ⟨(P).toArray⟩) (.string ⟨(P).toArray⟩) (.bool true) (by kernel_rfl) (by kernel_rfl) (eql_str _ _ _) (by kernel_rfl)
            · exact Obl.move trivial _ (Or.inl rfl) (by kernel_rfl)
            · exact Obl.move ⟨by kernel_rfl, by kernel_rfl, by kernel_rfl⟩ _ (Or.inl rfl) (by kernel_rfl)
            · exact Obl.move ⟨by kernel_rfl, by kernel_rfl, by kernel_rfl⟩ _ (Or.inl rfl) (by kernel_rfl)
            · exact Obl.lenV (x := (.tmp 57)) ⟨by kernel_rfl, by kernel_rfl, by kernel_rfl⟩ _ _ Try.underlying22 rfl (A1) (N) (c1) (by kernel_rfl) (by kernel_rfl)
            · exact Obl.bin ⟨by kernel_rfl, by kernel_rfl, by kernel_rfl⟩ .gtr _ (.tmp 58) (.const (.int .i64 0)) _ rfl (.int .i64 (N : Nat)) (.int .i64 0) (.bool (decide (0 < N))) (by kernel_rfl) (by kernel_rfl) (fun w => by simp [eqGuard, go_sem]) (by kernel_rfl)
            · exact Obl.bin ⟨by kernel_rfl, by kernel_rfl, by kernel_rfl⟩ .eql _ (.tmp 56) (.tmp 59) _ rfl (.bool (decide (0 < N))) (.bool (decide (0 < N))) (.bool true) (by kernel_rfl) (by kernel_rfl) (fun w => by simp [eqGuard, go_sem]) (by kernel_rfl)
            · exact Obl.pick trivial _ _ _ rfl true (by kernel_rfl) (by kernel_rfl)
            · exact Obl.move trivial _ (Or.inl rfl) (by kernel_rfl)
            · exact Obl.move ⟨by kernel_rfl, by kernel_rfl, by kernel_rfl⟩ _ (Or.inl rfl) (by kernel_rfl)
            · exact Obl.move ⟨by kernel_rfl, by kernel_rfl, by kernel_rfl⟩ _ (Or.inl rfl) (by kernel_rfl)
            · exact Obl.bin ⟨by kernel_rfl, by kernel_rfl, by kernel_rfl⟩ .eql _ (.tmp 63) (.tmp 64) _ rfl (.int .u64 (num (P.take 8) : Nat)) (.int .u64 (num (P.take 8) : Nat)) (.bool true) (by kernel_rfl) (by kernel_rfl) (fun w => by simp [eqGuard, go_sem]) (by kernel_rfl)
            · exact Obl.pick trivial _ _ _ rfl true (by kernel_rfl) (by kernel_rfl)
            · exact Obl.move trivial _ (Or.inl rfl) (by kernel_rfl)
            · exact Obl.call ⟨by kernel_rfl, by kernel_rfl, by kernel_rfl⟩ 9 #[] _ rfl Try.f9 Try.func9 (by kernel_rfl) (by kernel_rfl) (fun ev w hb hx => by
                simp only [List.map_toArray, List.map_nil]
                exact (known_any _).mono fun _ _ hh => hh.holds (by kernel_rfl))
            · exact Obl.pick trivial _ _ _ rfl true (by kernel_rfl) (by kernel_rfl)
            · exact Obl.move trivial _ (Or.inr rfl) (by kernel_rfl)
            intro a w4 hb hsz hdf hold hv
            have h8 : a.tmps.getD 4 undef = .bool true := holds_val (hv 22 4 (by kernel_rfl)) (by kernel_rfl)
            obtain ⟨tm, df⟩ := a
            have hdf' : df = [] := hdf
            subst hdf'
            go_wp2
            go_ret
            exact ⟨congrArg _ h8, b1.drew.trans (hb.mono b1.size)⟩
  · go_wp2_with fail
    refine (get_any _ _ _ _ _ hr1 hN 0 _ (by unfold I64; omega)).mono ?_
    rintro e w3 ⟨rfl, rfl⟩
    rw [show (8 : Int) = ((8 : Nat) : Int) from rfl, getN_head P 8 (by rw [hPl.out]; omega), getB_head N 8 (by omega)]
    obtain ⟨M, hM⟩ : ∃ M, M = 8 := ⟨_, rfl⟩
    have hM1 : M ≤ N ∧ M ≤ 8 ∧ (M = N ∨ M = 8) := by omega
    have hT := Lib.hid (show num (P.take M) = num (P.take 8) by rw [hM])
    clear hM hN8
    go_wp2_with fail
    go_loop [9, 10, 11, 12] (fun x j _ _ => ∃ q : Nat, q ≤ M ∧ j = .int .i64 q ∧ x = .int .u64 (num (P.take q) : Nat)) (fun _ j _ _ => M - (intOf j).toNat)
    case atStart => exact ⟨0, Nat.zero_le _, rfl, by simp [num]⟩
    case round =>
      obtain ⟨q, hq, rfl, rfl⟩ := hrel
      by_cases hlt : q < M
      · have g1 : decide ((q : Int) < (N : Int)) = true := by simp; omega
        have g2 : decide ((q : Int) < 8) = true := by simp; omega
        have hnt := num_take_lt P q (by omega)
        have hst := Lib.hid (or_one P q (by rw [hPl.out]; omega) (by omega))
        have hgb := Lib.hid (show getB N (q : Int) 1 = true by simp [getB, szB, thB]; omega)
        go_wp2_with fail
        refine (get_any _ _ _ _ _ hr1 hN _ _ (by unfold I64; omega)).mono ?_
        rintro e w3 ⟨rfl, rfl⟩
        rw [hgb.out]
        go_wp2
        go_round
        case rel => exact ⟨q + 1, by omega, by go_num, by rw [hst.out]⟩
        case measure => simp [intOf]; omega
      · obtain rfl : q = M := by omega
        have q1 := hr1.drew
        rw [hT.out]
        rcases hM1.2.2 with h8 | h8
        · have g1 : decide ((q : Int) < (N : Int)) = false := by simp; omega
          have g3 : ¬ q < N := by omega
          clear h8
          go_wp2_with fail
          refine wp_region_tbl [.val (.slice A1 N c1), .val (.int .i64 k), .bytes (P), .val (.string ⟨(P).toArray⟩), .val (.slice A1 N c1), .val (.string ⟨(P).toArray⟩), .val (.bool true), .val (.bool true), .val (.bool (decide (0 < N))), .val (.slice A1 N c1), .val (.int .i64 (N : Nat)), .val (.bool (decide (0 < N))), .val (.bool true), .val (.bool true), .val (.bool true), .val (.int .u64 (num (P.take 8) : Nat)), .val (.int .u64 (num (P.take 8) : Nat)), .val (.bool true), .val (.bool true), .val (.bool true), .val (.bool true), .val (.bool true), .val (.bool true)] (by kernel_rfl) (by kernel_rfl) (by kernel_rfl) (AllObl.all ⟨?_, ?_, ?_, ?_, ?_, ?_, ?_, ?_, ?_, ?_, ?_, ?_, ?_, ?_, ?_, ?_, ?_, ?_, ?_, ?_, ?_, ?_, ?_, trivial⟩) ?_
          · exact Obl.move trivial _ (Or.inl rfl) (by kernel_rfl)
          · exact Obl.move trivial _ (Or.inl rfl) (by kernel_rfl)
          · exact Obl.call trivial 13 #[.tmp 48, .tmp 49] _ rfl Try.f13 Try.func13 (by kernel_rfl) (by kernel_rfl) (fun ev w hb hx => by
              have e48 : ev (.tmp 48) = .slice A1 N c1 := holds_val (hx (.tmp 48)) (by kernel_rfl)
              have e49 : ev (.tmp 49) = .int .i64 k := holds_val (hx (.tmp 49)) (by kernel_rfl)
              simp only [List.map_toArray, List.map_cons, List.map_nil, e48, e49]
              exact (pad_same hpp.out (q1.on hb) hN).mono fun _ _ hh => hh.holds (by kernel_rfl))
          · exact Obl.str (x := .tmp 50) trivial 22 5 9 rfl Try.underlying22 Try.underlying5 Try.underlying9 (P) (.inl (by kernel_rfl)) (by kernel_rfl)
          · exact Obl.move trivial _ (Or.inl rfl) (by kernel_rfl)
          · exact Obl.str (x := .tmp 52) trivial 22 5 9 rfl Try.underlying22 Try.underlying5 Try.underlying9 (P) (.inr ⟨A1, N, c1, by kernel_rfl, q1⟩) (by kernel_rfl)
          · exact Obl.bin trivial .eql _ (.tmp 51) (.tmp 53) _ rfl (.string ⟨(P).toArray⟩) (.string ⟨(P).toArray⟩) (.bool true) (by kernel_rfl) (by kernel_rfl) (eql_str _ _ _) (by kernel_rfl)
          · exact Obl.move trivial _ (Or.inl rfl) (by kernel_rfl)
          · exact Obl.move ⟨by kernel_rfl, by kernel_rfl, by kernel_rfl⟩ _ (Or.inl rfl) (by kernel_rfl)
          · exact Obl.move ⟨by kernel_rfl, by kernel_rfl, by kernel_rfl⟩ _ (Or.inl rfl) (by kernel_rfl)
          · exact Obl.lenV (x := (.tmp 57)) ⟨by kernel_rfl, by kernel_rfl, by kernel_rfl⟩ _ _ Try.underlying22 rfl (A1) (N) (c1) (by kernel_rfl) (by kernel_rfl)
          · exact Obl.bin ⟨by kernel_rfl, by kernel_rfl, by kernel_rfl⟩ .gtr _ (.tmp 58) (.const (.int .i64 0)) _ rfl (.int .i64 (N : Nat)) (.int .i64 0) (.bool (decide (0 < N))) (by kernel_rfl) (by kernel_rfl) (fun w => by simp [eqGuard, go_sem]) (by kernel_rfl)
          · exact Obl.bin ⟨by kernel_rfl, by kernel_rfl, by kernel_rfl⟩ .eql _ (.tmp 56) (.tmp 59) _ rfl (.bool (decide (0 < N))) (.bool (decide (0 < N))) (.bool true) (by kernel_rfl) (by kernel_rfl) (fun w => by simp [eqGuard, go_sem]) (by kernel_rfl)
          · exact Obl.pick trivial _ _ _ rfl true (by kernel_rfl) (by kernel_rfl)
          · exact Obl.move trivial _ (Or.inl rfl) (by kernel_rfl)
          · exact Obl.move ⟨by kernel_rfl, by kernel_rfl, by kernel_rfl⟩ _ (Or.inl rfl) (by kernel_rfl)
          · exact Obl.move ⟨by kernel_rfl, by kernel_rfl, by kernel_rfl⟩ _ (Or.inl rfl) (by kernel_rfl)
          · exact Obl.bin ⟨by kernel_rfl, by kernel_rfl, by kernel_rfl⟩ .eql _ (.tmp 63) (.tmp 64) _ rfl (.int .u64 (num (P.take 8) : Nat)) (.int .u64 (num (P.take 8) : Nat)) (.bool true) (by kernel_rfl) (by kernel_rfl) (fun w => by simp [eqGuard, go_sem]) (by kernel_rfl)
          · exact Obl.pick trivial _ _ _ rfl true (by kernel_rfl) (by kernel_rfl)
          · exact Obl.move trivial _ (Or.inl rfl) (by kernel_rfl)
          · exact Obl.call ⟨by kernel_rfl, by kernel_rfl, by kernel_rfl⟩ 9 #[] _ rfl Try.f9 Try.func9 (by kernel_rfl) (by kernel_rfl) (fun ev w hb hx => by
              simp only [List.map_toArray, List.map_nil]
              exact (known_any _).mono fun _ _ hh => hh.holds (by kernel_rfl))
          · exact Obl.pick trivial _ _ _ rfl true (by kernel_rfl) (by kernel_rfl)
          · exact Obl.move trivial _ (Or.inr rfl) (by kernel_rfl)
          intro a w4 hb hsz hdf hold hv
          have h8 : a.tmps.getD 4 undef = .bool true := holds_val (hv 22 4 (by kernel_rfl)) (by kernel_rfl)
          obtain ⟨tm, df⟩ := a
          have hdf' : df = [] := hdf
          subst hdf'
          go_wp2
          go_ret
          exact ⟨congrArg _ h8, b1.drew.trans (hb.mono b1.size)⟩
        · have g1 : decide ((q : Int) < 8) = false := by simp; omega
          have g3 : ¬ q < 8 := by omega
          clear h8
          by_cases h8 : q < N
          · have g2 : decide ((q : Int) < (N : Int)) = true := by simp; omega
            go_wp2_with fail
            refine wp_region_tbl [.val (.slice A1 N c1), .val (.int .i64 k), .bytes (P), .val (.string ⟨(P).toArray⟩), .val (.slice A1 N c1), .val (.string ⟨(P).toArray⟩), .val (.bool true), .val (.bool true), .val (.bool (decide (0 < N))), .val (.slice A1 N c1), .val (.int .i64 (N : Nat)), .val (.bool (decide (0 < N))), .val (.bool true), .val (.bool true), .val (.bool true), .val (.int .u64 (num (P.take 8) : Nat)), .val (.int .u64 (num (P.take 8) : Nat)), .val (.bool true), .val (.bool true), .val (.bool true), .val (.bool true), .val (.bool true), .val (.bool true)] (by kernel_rfl) (by kernel_rfl) (by kernel_rfl) (AllObl.all ⟨?_, ?_, ?_, ?_, ?_, ?_, ?_, ?_, ?_, ?_, ?_, ?_, ?_, ?_, ?_, ?_, ?_, ?_, ?_, ?_, ?_, ?_, ?_, trivial⟩) ?_
            · exact Obl.move trivial _ (Or.inl rfl) (by kernel_rfl)
            · exact Obl.move trivial _ (Or.inl rfl) (by kernel_rfl)
            · exact Obl.call trivial 13 #[.tmp 48, .tmp 49] _ rfl Try.f13 Try.func13 (by kernel_rfl) (by kernel_rfl) (fun ev w hb hx => by
                have e48 : ev (.tmp 48) = .slice A1 N c1 := holds_val (hx (.tmp 48)) (by kernel_rfl)
                have e49 : ev (.tmp 49) = .int .i64 k := holds_val (hx (.tmp 49)) (by kernel_rfl)
                simp only [List.map_toArray, List.map_cons, List.map_nil, e48, e49]
                exact (pad_same hpp.out (q1.on hb) hN).mono fun _ _ hh => hh.holds (by kernel_rfl))
            · exact Obl.str (x := .tmp 50) trivial 22 5 9 rfl Try.underlying22 Try.underlying5 Try.underlying9 (P) (.inl (by kernel_rfl)) (by kernel_rfl)
            · exact Obl.move trivial _ (Or.inl rfl) (by kernel_rfl)
            · exact Obl.str (x := .tmp 52) trivial 22 5 9 rfl Try.underlying22 Try.underlying5 Try.underlying9 (P) (.inr ⟨A1, N, c1, by kernel_rfl, q1⟩) (by kernel_rfl)
            · exact Obl.bin trivial .eql _ (.tmp 51) (.tmp 53) _ rfl (.string ⟨(P).toArray⟩) (.string ⟨(P).toArray⟩) (.bool true) (by kernel_rfl) (by kernel_rfl) (eql_str _ _ _) (by kernel_rfl)
            · exact Obl.move trivial _ (Or.inl rfl) (by kernel_rfl)
            · exact Obl.move ⟨by kernel_rfl, by kernel_rfl, by kernel_rfl⟩ _ (Or.inl rfl) (by kernel_rfl)
            · exact Obl.move ⟨by kernel_rfl, by kernel_rfl, by kernel_rfl⟩ _ (Or.inl rfl) (by kernel_rfl)
            · exact Obl.lenV (x := (.tmp 57)) ⟨by kernel_rfl, by kernel_rfl, by kernel_rfl⟩ _ _ Try.underlying22 rfl (A1) (N) (c1) (by kernel_rfl) (by kernel_rfl)
            · exact Obl.bin ⟨by kernel_rfl, by kernel_rfl, by kernel_rfl⟩ .gtr _ (.tmp 58) (.const (.int .i64 0)) _ rfl (.int .i64 (N : Nat)) (.int .i64 0) (.bool (decide (0 < N))) (by kernel_rfl) (by kernel_rfl) (fun w => by simp [eqGuard, go_sem]) (by kernel_rfl)
            · exact Obl.bin ⟨by kernel_rfl, by kernel_rfl, by kernel_rfl⟩ .eql _ (.tmp 56) (.tmp 59) _ rfl (.bool (decide (0 < N))) (.bool (decide (0 < N))) (.bool true) (by kernel_rfl) (by kernel_rfl) (fun w => by simp [eqGuard, go_sem]) (by kernel_rfl)
            · exact Obl.pick trivial _ _ _ rfl true (by kernel_rfl) (by kernel_rfl)
            · exact Obl.move trivial _ (Or.inl rfl) (by kernel_rfl)
            · exact Obl.move ⟨by kernel_rfl, by kernel_rfl, by kernel_rfl⟩ _ (Or.inl rfl) (by kernel_rfl)
            · exact Obl.move ⟨by kernel_rfl, by kernel_rfl, by kernel_rfl⟩ _ (Or.inl rfl) (by kernel_rfl)
            · exact Obl.bin ⟨by kernel_rfl, by kernel_rfl, by kernel_rfl⟩ .eql _ (.tmp 63) (.tmp 64) _ rfl (.int .u64 (num (P.take 8) : Nat)) (.int .u64 (num (P.take 8) : Nat)) (.bool true) (by kernel_rfl) (by kernel_rfl) (fun w => by simp [eqGuard, go_sem]) (by kernel_rfl)
            · exact Obl.pick trivial _ _ _ rfl true (by kernel_rfl) (by kernel_rfl)
            · exact Obl.move trivial _ (Or.inl rfl) (by kernel_rfl)
            · exact Obl.call ⟨by kernel_rfl, by kernel_rfl, by kernel_rfl⟩ 9 #[] _ rfl Try.f9 Try.func9 (by kernel_rfl) (by kernel_rfl) (fun ev w hb hx => by
                simp only [List.map_toArray, List.map_nil]
                exact (known_any _).mono fun _ _ hh => hh.holds (by kernel_rfl))
            · exact Obl.pick trivial _ _ _ rfl true (by kernel_rfl) (by kernel_rfl)
            · exact Obl.move trivial _ (Or.inr rfl) (by kernel_rfl)
            intro a w4 hb hsz hdf hold hv
            have h8 : a.tmps.getD 4 undef = .bool true := holds_val (hv 22 4 (by kernel_rfl)) (by kernel_rfl)
            obtain ⟨tm, df⟩ := a
            have hdf' : df = [] := hdf
            subst hdf'
            go_wp2
            go_ret
            exact ⟨congrArg _ h8, b1.drew.trans (hb.mono b1.size)⟩
          · have g2 : decide ((q : Int) < (N : Int)) = false := by simp; omega
            go_wp2_with fail
            refine wp_region_tbl [.val (.slice A1 N c1), .val (.int .i64 k), .bytes (P), .val (.string ⟨(P).toArray⟩), .val (.slice A1 N c1), .val (.string ⟨(P).toArray⟩), .val (.bool true), .val (.bool true), .val (.bool (decide (0 < N))), .val (.slice A1 N c1), .val (.int .i64 (N : Nat)), .val (.bool (decide (0 < N))), .val (.bool true), .val (.bool true), .val (.bool true), .val (.int .u64 (num (P.take 8) : Nat)), .val (.int .u64 (num (P.take 8) : Nat)), .val (.bool true), .val (.bool true), .val (.bool true), .val (.bool true), .val (.bool true), .val (.bool true)] (by kernel_rfl) (by kernel_rfl) (by kernel_rfl) (AllObl.all ⟨?_, ?_, ?_, ?_, ?_, ?_, ?_, ?_, ?_, ?_, ?_, ?_, ?_, ?_, ?_, ?_, ?_, ?_, ?_, ?_, ?_, ?_, ?_, trivial⟩) ?_
            · exact Obl.move trivial _ (Or.inl rfl) (by kernel_rfl)
            · exact Obl.move trivial _ (Or.inl rfl) (by kernel_rfl)
            · exact Obl.call trivial 13 #[.tmp 48, .tmp 49] _ rfl Try.f13 Try.func13 (by kernel_rfl) (by kernel_rfl) (fun ev w hb hx => by
                have e48 : ev (.tmp 48) = .slice A1 N c1 := holds_val (hx (.tmp 48)) (by kernel_rfl)
                have e49 : ev (.tmp 49) = .int .i64 k := holds_val (hx (.tmp 49)) (by kernel_rfl)
                simp only [List.map_toArray, List.map_cons, List.map_nil, e48, e49]
                exact (pad_same hpp.out (q1.on hb) hN).mono fun _ _ hh => hh.holds (by kernel_rfl))
            · exact Obl.str (x := .tmp 50) trivial 22 5 9 rfl Try.underlying22 Try.underlying5 Try.underlying9 (P) (.inl (by kernel_rfl)) (by kernel_rfl)
            · exact Obl.move trivial _ (Or.inl rfl) (by kernel_rfl)
            · exact Obl.str (x := .tmp 52) trivial 22 5 9 rfl Try.underlying22 Try.underlying5 Try.underlying9 (P) (.inr ⟨A1, N, c1, by kernel_rfl, q1⟩) (by kernel_rfl)
            · exact Obl.bin trivial .eql _ (.tmp 51) (.tmp 53) _ rfl (.string ⟨(P).toArray⟩) (.string ⟨(P).toArray⟩) (.bool true) (by kernel_rfl) (by kernel_rfl) (eql_str _ _ _) (by kernel_rfl)
            · exact Obl.move trivial _ (Or.inl rfl) (by kernel_rfl)
            · exact Obl.move ⟨by kernel_rfl, by kernel_rfl, by kernel_rfl⟩ _ (Or.inl rfl) (by kernel_rfl)
            · exact Obl.move ⟨by kernel_rfl, by kernel_rfl, by kernel_rfl⟩ _ (Or.inl rfl) (by kernel_rfl)
            · exact Obl.lenV (x := (.tmp 57)) ⟨by kernel_rfl, by kernel_rfl, by kernel_rfl⟩ _ _ Try.underlying22 rfl (A1) (N) (c1) (by kernel_rfl) (by kernel_rfl)
            · exact Obl.bin ⟨by kernel_rfl, by kernel_rfl, by kernel_rfl⟩ .gtr _ (.tmp 58) (.const (.int .i64 0)) _ rfl (.int .i64 (N : Nat)) (.int .i64 0) (.bool (decide (0 < N))) (by kernel_rfl) (by kernel_rfl) (fun w => by simp [eqGuard, go_sem]) (by kernel_rfl)
            · exact Obl.bin ⟨by kernel_rfl, by kernel_rfl, by kernel_rfl⟩ .eql _ (.tmp 56) (.tmp 59) _ rfl (.bool (decide (0 < N))) (.bool (decide (0 < N))) (.bool true) (by kernel_rfl) (by kernel_rfl) (fun w => by simp [eqGuard, go_sem]) (by kernel_rfl)
            · exact Obl.pick trivial _ _ _ rfl true (by kernel_rfl) (by kernel_rfl)
            · exact Obl.move trivial _ (Or.inl rfl) (by kernel_rfl)
            · exact Obl.move ⟨by kernel_rfl, by kernel_rfl, by kernel_rfl⟩ _ (Or.inl rfl) (by kernel_rfl)
            · exact Obl.move ⟨by kernel_rfl, by kernel_rfl, by kernel_rfl⟩ _ (Or.inl rfl) (by kernel_rfl)
            · exact Obl.bin ⟨by kernel_rfl, by kernel_rfl, by kernel_rfl⟩ .eql _ (.tmp 63) (.tmp 64) _ rfl (.int .u64 (num (P.take 8) : Nat)) (.int .u64 (num (P.take 8) : Nat)) (.bool true) (by kernel_rfl) (by kernel_rfl) (fun w => by simp [eqGuard, go_sem]) (by kernel_rfl)
            · exact Obl.pick trivial _ _ _ rfl true (by kernel_rfl) (by kernel_rfl)
            · exact Obl.move trivial _ (Or.inl rfl) (by kernel_rfl)
            · exact Obl.call ⟨by kernel_rfl, by kernel_rfl, by kernel_rfl⟩ 9 #[] _ rfl Try.f9 Try.func9 (by kernel_rfl) (by kernel_rfl) (fun ev w hb hx => by
                simp only [List.map_toArray, List.map_nil]
                exact (known_any _).mono fun _ _ hh => hh.holds (by kernel_rfl))
            · exact Obl.pick trivial _ _ _ rfl true (by kernel_rfl) (by kernel_rfl)
            · exact Obl.move trivial _ (Or.inr rfl) (by kernel_rfl)
            intro a w4 hb hsz hdf hold hv
            have h8 : a.tmps.getD 4 undef = .bool true := holds_val (hv 22 4 (by kernel_rfl)) (by kernel_rfl)
            obtain ⟨tm, df⟩ := a
            have hdf' : df = [] := hdf
            subst hdf'
            go_wp2
            go_ret
            exact ⟨congrArg _ h8, b1.drew.trans (hb.mono b1.size)⟩
end Go.Proofs.Ytpcaanedplbeoaa
