/- The law's helper 'same': each call and its answer by the document. -/
import Derived.Test.YtpcaanedplbeoaaRefB
import Derived.Test.YtpcaanedplbeoaaReg
namespace Go.Proofs.Ytpcaanedplbeoaa
open Go.RowKit
set_option linter.unusedVariables false
set_option linter.unusedSimpArgs false

def getN (l : List UInt8) (i k : Int) : Nat := if szB k = true ∧ thB l.length i k = true then num ((l.drop i.toNat).take k.toNat) else 0
def getB (n : Nat) (i k : Int) : Bool := szB k && thB n i k
def cutL (l : List UInt8) (i k : Int) : List UInt8 := if thB l.length i k = true then (l.drop i.toNat).take k.toNat else []
def putL (l : List UInt8) (x : Nat) (k : Int) : List UInt8 := if szB k = true then l ++ be x k.toNat else l
def padL (l : List UInt8) (k : Int) : List UInt8 := l ++ List.replicate (padN l.length k) 0

theorem th_nat {n : Nat} {i k : Int} (h : thB n i k = true) : ∃ a b : Nat, i = a ∧ k = b ∧ a + b ≤ n := by
  have h0 : 0 ≤ i ∧ 0 ≤ k ∧ k ≤ (n : Int) - i := by simpa [thB] using h
  exact ⟨i.toNat, k.toNat, by omega, by omega, by omega⟩
theorem sz_nat {k : Int} (h : szB k = true) : ∃ b : Nat, k = b ∧ 1 ≤ b ∧ b ≤ 8 := by
  have h0 : 1 ≤ k ∧ k ≤ 8 := by simpa [szB] using h
  exact ⟨k.toNat, by omega, by omega, by omega⟩

section
variable (A : Option Addr) (n c : Nat) (l : List UInt8) (w : World)
theorem get_any (h : R8 w w.heap.size A n c l) (hn : n ≤ 140737488355328) (i k : Int) (hi : I64 i) :
    Calls Try.prog 12 #[.slice A n c, .int .i64 i, .int .i64 k] w fun e w' => e = .returned (.tuple #[.int .u64 (getN l i k), .bool (getB n i k)]) ∧ w = w' := by
  have hl := h.1
  by_cases hs : szB k = true
  · by_cases ht : thB n i k = true
    · obtain ⟨b, rfl, h1, h8⟩ := sz_nat hs
      obtain ⟨a, b', rfl, hb', hab⟩ := th_nat ht
      have : b' = b := by omega
      subst this
      have e1 : getN l a b' = num ((l.drop a).take b') := by simp [getN, hs, hl, ht]
      have e2 : getB n a b' = true := by simp [getB, hs, ht]
      rw [e1, e2]
      exact get_yes A n c l w h hn a b' h1 h8 hab
    · have e1 : getN l i k = 0 := by simp [getN, hl, ht]
      have e2 : getB n i k = false := by simp [getB, ht]
      rw [e1, e2]
      exact get_no A n c w hn i k hi (.inr (by simpa using ht))
  · have e1 : getN l i k = 0 := by simp [getN, hs]
    have e2 : getB n i k = false := by simp [getB, hs]
    rw [e1, e2]
    exact get_no A n c w hn i k hi (.inl (by simpa using hs))
theorem ref_get_any (h : R8 w w.heap.size A n c l) (hn : n ≤ 140737488355328) (i k : Int) (hi : I64 i) :
    Calls Try.prog 15 #[.slice A n c, .int .i64 i, .int .i64 k] w fun e w' => e = .returned (.tuple #[.int .u64 (getN l i k), .bool (getB n i k)]) ∧ w = w' := by
  have hl := h.1
  by_cases hs : szB k = true
  · by_cases ht : thB n i k = true
    · obtain ⟨b, rfl, h1, h8⟩ := sz_nat hs
      obtain ⟨a, b', rfl, hb', hab⟩ := th_nat ht
      have : b' = b := by omega
      subst this
      have e1 : getN l a b' = num ((l.drop a).take b') := by simp [getN, hs, hl, ht]
      have e2 : getB n a b' = true := by simp [getB, hs, ht]
      rw [e1, e2]
      exact ref_get_yes A n c l w h hn a b' h1 h8 hab
    · have e1 : getN l i k = 0 := by simp [getN, hl, ht]
      have e2 : getB n i k = false := by simp [getB, ht]
      rw [e1, e2]
      exact ref_get_no A n c w hn i k hi (.inr (by simpa using ht))
  · have e1 : getN l i k = 0 := by simp [getN, hs]
    have e2 : getB n i k = false := by simp [getB, hs]
    rw [e1, e2]
    exact ref_get_no A n c w hn i k hi (.inl (by simpa using hs))
theorem cut_any (h : R8 w w.heap.size A n c l) (hn : n ≤ 140737488355328) (i k : Int) (hi : I64 i) :
    Calls Try.prog 14 #[.slice A n c, .int .i64 i, .int .i64 k] w (Out8b w (cutL l i k) (thB n i k)) := by
  have hl := h.1
  by_cases ht : thB n i k = true
  · obtain ⟨a, b, rfl, rfl, hab⟩ := th_nat ht
    have e1 : cutL l a b = (l.drop a).take b := by simp [cutL, hl, ht]
    rw [e1, ht]
    exact cut_yes A n c l w h hn a b hab
  · have e1 : cutL l i k = [] := by simp [cutL, hl, ht]
    have e2 : thB n i k = false := by simpa using ht
    rw [e1, e2]
    exact (cut_no A n c w hn i k hi e2).mono fun e w' ⟨he, hw⟩ => by subst he; subst hw; exact ⟨_, _, _, rfl, R8.nil _ _ _ _, Below.refl _ _⟩
theorem ref_cut_any (h : R8 w w.heap.size A n c l) (hn : n ≤ 140737488355328) (i k : Int) (hi : I64 i) :
    Calls Try.prog 16 #[.slice A n c, .int .i64 i, .int .i64 k] w (Out8b w (cutL l i k) (thB n i k)) := by
  have hl := h.1
  by_cases ht : thB n i k = true
  · obtain ⟨a, b, rfl, rfl, hab⟩ := th_nat ht
    have e1 : cutL l a b = (l.drop a).take b := by simp [cutL, hl, ht]
    rw [e1, ht]
    exact ref_cut_yes A n c l w h hn a b hab
  · have e1 : cutL l i k = [] := by simp [cutL, hl, ht]
    have e2 : thB n i k = false := by simpa using ht
    rw [e1, e2]
    exact (ref_cut_no A n c w hn i k hi e2).mono fun e w' ⟨he, hw⟩ => by subst he; subst hw; exact ⟨_, _, _, rfl, R8.nil _ _ _ _, Below.refl _ _⟩
theorem put_any (h : R8 w w.heap.size A n c l) (hn : n ≤ 140737488355328) (x : Nat) (k : Int) (hx : x < 18446744073709551616) :
    Calls Try.prog 11 #[.slice A n c, .int .u64 x, .int .i64 k] w (Out8 w (putL l x k)) := by
  by_cases hs : szB k = true
  · obtain ⟨b, rfl, h1, h8⟩ := sz_nat hs
    have e1 : putL l x b = l ++ be x b := by simp [putL, hs]
    rw [e1]
    exact (put_yes A n c l w h hn x b h1 h8 hx).mono fun _ _ h => h.out
  · have e1 : putL l x k = l := by simp [putL, hs]
    rw [e1]
    exact (put_no A n c l w h hn x k (by simpa using hs)).mono fun _ _ h => h.out
theorem ref_put_any (h : R8 w w.heap.size A n c l) (hn : n ≤ 140737488351232) (x : Nat) (k : Int) (hx : x < 18446744073709551616) :
    Calls Try.prog 17 #[.slice A n c, .int .u64 x, .int .i64 k] w (Out8 w (putL l x k)) := by
  by_cases hs : szB k = true
  · obtain ⟨b, rfl, h1, h8⟩ := sz_nat hs
    have e1 : putL l x b = l ++ be x b := by simp [putL, hs]
    rw [e1]
    exact ref_put_yes A n c l w h hn x b h1 h8 hx
  · have e1 : putL l x k = l := by simp [putL, hs]
    rw [e1]
    exact ref_put_no A n c l w h hn x k (by simpa using hs)
theorem pad_all (h : R8 w w.heap.size A n c l) (hn : n ≤ 140737488355328) (k : Int) :
    Calls Try.prog 13 #[.slice A n c, .int .i64 k] w (Out8 w (padL l k)) := by
  have hl := h.1
  subst hl
  exact (pad_any A _ c l w h hn k).mono fun _ _ h => h.out
theorem ref_pad_all (h : R8 w w.heap.size A n c l) (hn : n ≤ 140737488351232) (k : Int) :
    Calls Try.prog 18 #[.slice A n c, .int .i64 k] w (Out8 w (padL l k)) := by
  have hl := h.1
  subst hl
  exact ref_pad_any A _ c l w h hn k
end

theorem same_any (A : Option Addr) (n c : Nat) (l : List UInt8) (w : World) (h : R8 w w.heap.size A n c l) (hn : n ≤ 140737488351232) (x : Nat) (hx8 : x < 18446744073709551616) (i k : Int) (hi : I64 i) :
    Calls Try.prog 8 #[.slice A n c, .int .u64 x, .int .i64 i, .int .i64 k] w (Yes w) := by
  have hn' : n ≤ 140737488355328 := by omega
  go_enter Try.func8, Try.ntmps8
  go_wp2_with (first | (go_at_call 12; refine (get_any _ _ _ _ _ h hn' _ _ hi).mono ?_; rintro e w' ⟨rfl, rfl⟩) | (go_at_call 15; refine (ref_get_any _ _ _ _ _ h hn' _ _ hi).mono ?_; rintro e w' ⟨rfl, rfl⟩) | (go_at_call 14; refine (cut_any _ _ _ _ _ h hn' _ _ hi).mono ?_; rintro e w1 ⟨A1, m1, c1, rfl, hr1, hb1⟩) | (go_at_call 16; refine (ref_cut_any _ _ _ _ _ (h.on hb1) hn' _ _ hi).mono ?_; rintro e w2 ⟨A2, m2, c2, rfl, hr2, hb2⟩))
  have q0 := (h.on (hb1.trans (hb2.mono hb1.size))).drew
  have q1 := (hr1.on hb2).drew
  have q2 := hr2.drew
  refine wp_region_tbl [.val (.int .u64 (getN l i k)), .val (.int .u64 (getN l i k)), .val (.bool true), .val (.bool true), .val (.bool (getB n i k)), .val (.bool (getB n i k)), .val (.bool true), .val (.bool true), .val (.bool true), .val (.slice A1 m1 c1), .val (.string ⟨(cutL l i k).toArray⟩), .val (.slice A2 m2 c2), .val (.string ⟨(cutL l i k).toArray⟩), .val (.bool true), .val (.bool true), .val (.bool true), .val (.bool (thB n i k)), .val (.bool (thB n i k)), .val (.bool true), .val (.bool true), .val (.bool true), .val (.slice A n c), .val (.int .u64 x), .val (.int .i64 k), .bytes (putL l x k), .val (.string ⟨(putL l x k).toArray⟩), .val (.slice A n c), .val (.int .u64 x), .val (.int .i64 k), .bytes (putL l x k), .val (.string ⟨(putL l x k).toArray⟩), .val (.bool true), .val (.bool true), .val (.bool true), .val (.slice A n c), .val (.int .i64 k), .bytes (padL l k), .val (.string ⟨(padL l k).toArray⟩), .val (.slice A n c), .val (.int .i64 k), .bytes (padL l k), .val (.string ⟨(padL l k).toArray⟩), .val (.bool true), .val (.bool true), .val (.bool true)] (by kernel_rfl) (by kernel_rfl) (by kernel_rfl) (AllObl.all ⟨?_, ?_, ?_, ?_, ?_, ?_, ?_, ?_, ?_, ?_, ?_, ?_, ?_, ?_, ?_, ?_, ?_, ?_, ?_, ?_, ?_, ?_, ?_, ?_, ?_, ?_, ?_, ?_, ?_, ?_, ?_, ?_, ?_, ?_, ?_, ?_, ?_, ?_, ?_, ?_, ?_, ?_, ?_, ?_, ?_, trivial⟩) ?_
  · exact Obl.move trivial _ (Or.inl rfl) (by kernel_rfl)
  · exact Obl.move trivial _ (Or.inl rfl) (by kernel_rfl)
  · exact Obl.bin trivial .eql _ (.tmp 45) (.tmp 46) _ rfl (.int .u64 (getN l i k)) (.int .u64 (getN l i k)) (.bool true) (by kernel_rfl) (by kernel_rfl) (fun w => by simp [eqGuard, go_sem]) (by kernel_rfl)
  · exact Obl.move trivial _ (Or.inl rfl) (by kernel_rfl)
  · exact Obl.move ⟨by kernel_rfl, by kernel_rfl, by kernel_rfl⟩ _ (Or.inl rfl) (by kernel_rfl)
  · exact Obl.move ⟨by kernel_rfl, by kernel_rfl, by kernel_rfl⟩ _ (Or.inl rfl) (by kernel_rfl)
  · exact Obl.bin ⟨by kernel_rfl, by kernel_rfl, by kernel_rfl⟩ .eql _ (.tmp 49) (.tmp 50) _ rfl (.bool (getB n i k)) (.bool (getB n i k)) (.bool true) (by kernel_rfl) (by kernel_rfl) (fun w => by simp [eqGuard, go_sem]) (by kernel_rfl)
  · exact Obl.pick trivial _ _ _ rfl true (by kernel_rfl) (by kernel_rfl)
  · exact Obl.move trivial _ (Or.inl rfl) (by kernel_rfl)
  · exact Obl.move ⟨by kernel_rfl, by kernel_rfl, by kernel_rfl⟩ _ (Or.inl rfl) (by kernel_rfl)
  · exact Obl.str (x := .tmp 54) ⟨by kernel_rfl, by kernel_rfl, by kernel_rfl⟩ 22 5 9 rfl Try.underlying22 Try.underlying5 Try.underlying9 (cutL l i k) (.inr ⟨A1, m1, c1, by kernel_rfl, q1⟩) (by kernel_rfl)
  · exact Obl.move ⟨by kernel_rfl, by kernel_rfl, by kernel_rfl⟩ _ (Or.inl rfl) (by kernel_rfl)
  · exact Obl.str (x := .tmp 56) ⟨by kernel_rfl, by kernel_rfl, by kernel_rfl⟩ 22 5 9 rfl Try.underlying22 Try.underlying5 Try.underlying9 (cutL l i k) (.inr ⟨A2, m2, c2, by kernel_rfl, q2⟩) (by kernel_rfl)
  · exact Obl.bin ⟨by kernel_rfl, by kernel_rfl, by kernel_rfl⟩ .eql _ (.tmp 55) (.tmp 57) _ rfl (.string ⟨(cutL l i k).toArray⟩) (.string ⟨(cutL l i k).toArray⟩) (.bool true) (by kernel_rfl) (by kernel_rfl) (eql_str _ _ _) (by kernel_rfl)
  · exact Obl.pick trivial _ _ _ rfl true (by kernel_rfl) (by kernel_rfl)
  · exact Obl.move trivial _ (Or.inl rfl) (by kernel_rfl)
  · exact Obl.move ⟨by kernel_rfl, by kernel_rfl, by kernel_rfl⟩ _ (Or.inl rfl) (by kernel_rfl)
  · exact Obl.move ⟨by kernel_rfl, by kernel_rfl, by kernel_rfl⟩ _ (Or.inl rfl) (by kernel_rfl)
  · exact Obl.bin ⟨by kernel_rfl, by kernel_rfl, by kernel_rfl⟩ .eql _ (.tmp 61) (.tmp 62) _ rfl (.bool (thB n i k)) (.bool (thB n i k)) (.bool true) (by kernel_rfl) (by kernel_rfl) (fun w => by simp [eqGuard, go_sem]) (by kernel_rfl)
  · exact Obl.pick trivial _ _ _ rfl true (by kernel_rfl) (by kernel_rfl)
  · exact Obl.move trivial _ (Or.inl rfl) (by kernel_rfl)
  · exact Obl.move ⟨by kernel_rfl, by kernel_rfl, by kernel_rfl⟩ _ (Or.inl rfl) (by kernel_rfl)
  · exact Obl.move ⟨by kernel_rfl, by kernel_rfl, by kernel_rfl⟩ _ (Or.inl rfl) (by kernel_rfl)
  · exact Obl.move ⟨by kernel_rfl, by kernel_rfl, by kernel_rfl⟩ _ (Or.inl rfl) (by kernel_rfl)
  · exact Obl.call ⟨by kernel_rfl, by kernel_rfl, by kernel_rfl⟩ 11 #[.tmp 66, .tmp 67, .tmp 68] _ rfl Try.f11 Try.func11 (by kernel_rfl) (by kernel_rfl) (fun ev w hb hx => by
      have e66 : ev (.tmp 66) = .slice A n c := holds_val (hx (.tmp 66)) (by kernel_rfl)
      have e67 : ev (.tmp 67) = .int .u64 x := holds_val (hx (.tmp 67)) (by kernel_rfl)
      have e68 : ev (.tmp 68) = .int .i64 k := holds_val (hx (.tmp 68)) (by kernel_rfl)
      simp only [List.map_toArray, List.map_cons, List.map_nil, e66, e67, e68]
      exact (put_any _ _ _ _ _ (q0.on hb) hn' _ _ hx8).mono fun _ _ hh => hh.holds (by kernel_rfl))
  · exact Obl.str (x := .tmp 69) ⟨by kernel_rfl, by kernel_rfl, by kernel_rfl⟩ 22 5 9 rfl Try.underlying22 Try.underlying5 Try.underlying9 (putL l x k) (.inl (by kernel_rfl)) (by kernel_rfl)
  · exact Obl.move ⟨by kernel_rfl, by kernel_rfl, by kernel_rfl⟩ _ (Or.inl rfl) (by kernel_rfl)
  · exact Obl.move ⟨by kernel_rfl, by kernel_rfl, by kernel_rfl⟩ _ (Or.inl rfl) (by kernel_rfl)
  · exact Obl.move ⟨by kernel_rfl, by kernel_rfl, by kernel_rfl⟩ _ (Or.inl rfl) (by kernel_rfl)
  · exact Obl.call ⟨by kernel_rfl, by kernel_rfl, by kernel_rfl⟩ 17 #[.tmp 71, .tmp 72, .tmp 73] _ rfl Try.f17 Try.func17 (by kernel_rfl) (by kernel_rfl) (fun ev w hb hx => by
      have e71 : ev (.tmp 71) = .slice A n c := holds_val (hx (.tmp 71)) (by kernel_rfl)
      have e72 : ev (.tmp 72) = .int .u64 x := holds_val (hx (.tmp 72)) (by kernel_rfl)
      have e73 : ev (.tmp 73) = .int .i64 k := holds_val (hx (.tmp 73)) (by kernel_rfl)
      simp only [List.map_toArray, List.map_cons, List.map_nil, e71, e72, e73]
      exact (ref_put_any _ _ _ _ _ (q0.on hb) hn _ _ hx8).mono fun _ _ hh => hh.holds (by kernel_rfl))
  · exact Obl.str (x := .tmp 74) ⟨by kernel_rfl, by kernel_rfl, by kernel_rfl⟩ 22 5 9 rfl Try.underlying22 Try.underlying5 Try.underlying9 (putL l x k) (.inl (by kernel_rfl)) (by kernel_rfl)
  · exact Obl.bin ⟨by kernel_rfl, by kernel_rfl, by kernel_rfl⟩ .eql _ (.tmp 70) (.tmp 75) _ rfl (.string ⟨(putL l x k).toArray⟩) (.string ⟨(putL l x k).toArray⟩) (.bool true) (by kernel_rfl) (by kernel_rfl) (eql_str _ _ _) (by kernel_rfl)
  · exact Obl.pick trivial _ _ _ rfl true (by kernel_rfl) (by kernel_rfl)
  · exact Obl.move trivial _ (Or.inl rfl) (by kernel_rfl)
  · exact Obl.move ⟨by kernel_rfl, by kernel_rfl, by kernel_rfl⟩ _ (Or.inl rfl) (by kernel_rfl)
  · exact Obl.move ⟨by kernel_rfl, by kernel_rfl, by kernel_rfl⟩ _ (Or.inl rfl) (by kernel_rfl)
  · exact Obl.call ⟨by kernel_rfl, by kernel_rfl, by kernel_rfl⟩ 13 #[.tmp 79, .tmp 80] _ rfl Try.f13 Try.func13 (by kernel_rfl) (by kernel_rfl) (fun ev w hb hx => by
      have e79 : ev (.tmp 79) = .slice A n c := holds_val (hx (.tmp 79)) (by kernel_rfl)
      have e80 : ev (.tmp 80) = .int .i64 k := holds_val (hx (.tmp 80)) (by kernel_rfl)
      simp only [List.map_toArray, List.map_cons, List.map_nil, e79, e80]
      exact (pad_all _ _ _ _ _ (q0.on hb) hn' _).mono fun _ _ hh => hh.holds (by kernel_rfl))
  · exact Obl.str (x := .tmp 81) ⟨by kernel_rfl, by kernel_rfl, by kernel_rfl⟩ 22 5 9 rfl Try.underlying22 Try.underlying5 Try.underlying9 (padL l k) (.inl (by kernel_rfl)) (by kernel_rfl)
  · exact Obl.move ⟨by kernel_rfl, by kernel_rfl, by kernel_rfl⟩ _ (Or.inl rfl) (by kernel_rfl)
  · exact Obl.move ⟨by kernel_rfl, by kernel_rfl, by kernel_rfl⟩ _ (Or.inl rfl) (by kernel_rfl)
  · exact Obl.call ⟨by kernel_rfl, by kernel_rfl, by kernel_rfl⟩ 18 #[.tmp 83, .tmp 84] _ rfl Try.f18 Try.func18 (by kernel_rfl) (by kernel_rfl) (fun ev w hb hx => by
      have e83 : ev (.tmp 83) = .slice A n c := holds_val (hx (.tmp 83)) (by kernel_rfl)
      have e84 : ev (.tmp 84) = .int .i64 k := holds_val (hx (.tmp 84)) (by kernel_rfl)
      simp only [List.map_toArray, List.map_cons, List.map_nil, e83, e84]
      exact (ref_pad_all _ _ _ _ _ (q0.on hb) hn _).mono fun _ _ hh => hh.holds (by kernel_rfl))
  · exact Obl.str (x := .tmp 85) ⟨by kernel_rfl, by kernel_rfl, by kernel_rfl⟩ 22 5 9 rfl Try.underlying22 Try.underlying5 Try.underlying9 (padL l k) (.inl (by kernel_rfl)) (by kernel_rfl)
  · exact Obl.bin ⟨by kernel_rfl, by kernel_rfl, by kernel_rfl⟩ .eql _ (.tmp 82) (.tmp 86) _ rfl (.string ⟨(padL l k).toArray⟩) (.string ⟨(padL l k).toArray⟩) (.bool true) (by kernel_rfl) (by kernel_rfl) (eql_str _ _ _) (by kernel_rfl)
  · exact Obl.pick trivial _ _ _ rfl true (by kernel_rfl) (by kernel_rfl)
  · exact Obl.move trivial _ (Or.inr rfl) (by kernel_rfl)
  · intro a w3 hb hsz hdf hold hv
    have h8 : a.tmps.getD 8 undef = .bool true := holds_val (hv 44 8 (by kernel_rfl)) (by kernel_rfl)
    obtain ⟨tm, df⟩ := a
    have hdf' : df = [] := hdf
    subst hdf'
    go_wp2
    go_ret
    exact ⟨congrArg _ h8, (hb1.trans (hb2.mono hb1.size)).drew.trans (hb.mono (Nat.le_trans hb1.size hb2.size))⟩
end Go.Proofs.Ytpcaanedplbeoaa
