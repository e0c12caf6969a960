/- Runes of a row of bytes, in plain words: where they lie, cuts at a rune, runes written and read again, letters turned small. No function of the program. -/
import Derived.Lib.DecodeN
import Derived.Lib.RuneBytes
import GoSem.Core.Utf8
namespace Go.Proofs.Ytgjncaobcgjefaa
open Go.Lib
set_option linter.unusedVariables false
set_option linter.unusedSimpArgs false
set_option maxRecDepth 20000

/-- The first rune and how many bytes it takes. -/
def dL (l : List UInt8) : Nat × Nat := decodeN l.length (l.getD 0 0).toNat (l.getD 1 0).toNat (l.getD 2 0).toNat (l.getD 3 0).toNat

theorem get_list (s : ByteArray) (i : Nat) : s.get! i = s.data.toList.getD i 0 := by
  show s.data[i]! = _
  rw [List.getD_eq_getElem?_getD, Array.getElem?_toList, getElem!_def]
  cases s.data[i]? <;> rfl
theorem dL_drop (s : ByteArray) (pos : Nat) : dL (s.data.toList.drop pos) = Utf8.decode s pos := by
  rw [decode_at, dL]
  simp only [get_list, List.getD_eq_getElem?_getD, List.getElem?_drop, List.length_drop, Nat.add_zero]
  rfl
theorem dL_pos (l : List UInt8) : 1 ≤ (dL l).2 := by
  unfold dL decodeN
  repeat' split
  all_goals exact (by omega)
theorem decodeN_fits (n b0 b1 b2 b3 : Nat) (h : 1 ≤ n) : (decodeN n b0 b1 b2 b3).2 ≤ n := by
  unfold decodeN
  repeat' split
  all_goals (simp only; omega)
theorem dL_le (l : List UInt8) (h : l ≠ []) : (dL l).2 ≤ l.length := decodeN_fits _ _ _ _ _ (List.length_pos_iff.2 h)
/-- What may be a rune. -/
def Rn (r : Nat) : Prop := r < 55296 ∨ (57343 < r ∧ r ≤ 1114111)
theorem dL_rune (l : List UInt8) : Rn (dL l).1 := by
  have h0 := (l.getD 0 0).toNat_lt
  unfold Rn dL decodeN
  repeat' split
  all_goals (simp only; omega)
set_option maxRecDepth 100000 in
set_option maxHeartbeats 8000000 in
theorem decodeN_take (n m b0 b1 b2 b3 c1 c2 c3 : Nat) (hw : (decodeN n b0 b1 b2 b3).2 ≤ m) (hm : m ≤ n) (e1 : 1 < m → c1 = b1) (e2 : 2 < m → c2 = b2) (e3 : 3 < m → c3 = b3) (h1 : 1 ≤ m) :
    decodeN m b0 c1 c2 c3 = decodeN n b0 b1 b2 b3 := by
  by_cases g1 : 1 < m
  · have := e1 g1
    subst this
    by_cases g2 : 2 < m
    · have := e2 g2
      subst this
      by_cases g3 : 3 < m
      · have := e3 g3
        subst this
        unfold decodeN at hw ⊢
        repeat' split
        all_goals first | rfl | (exfalso; omega)
      · have hm3 : m = 3 := by omega
        subst hm3
        unfold decodeN at hw ⊢
        repeat' split at hw
        all_goals (repeat' split)
        all_goals first | rfl | (exfalso; omega) | (exfalso; simp only at hw; omega)
    · have hm2 : m = 2 := by omega
      subst hm2
      unfold decodeN at hw ⊢
      repeat' split at hw
      all_goals (repeat' split)
      all_goals first | rfl | (exfalso; omega) | (exfalso; simp only at hw; omega)
  · have hm1 : m = 1 := by omega
    subst hm1
    unfold decodeN at hw ⊢
    repeat' split at hw
    all_goals (repeat' split)
    all_goals first | rfl | (exfalso; omega) | (exfalso; simp only at hw; omega)
theorem getD_take (l : List UInt8) (m i : Nat) (h : i < m) : (l.take m).getD i 0 = l.getD i 0 := by simp [List.getD, h]
theorem dL_take (l : List UInt8) (m : Nat) (h : l ≠ []) (hw : (dL l).2 ≤ m) : dL (l.take m) = dL l := by
  rcases Nat.lt_or_ge l.length m with hl | hl
  · rw [List.take_of_length_le (by omega)]
  · have h1 := dL_pos l
    unfold dL at hw ⊢
    rw [List.length_take, Nat.min_eq_left hl, getD_take l m 0 (by unfold dL at h1; omega)]
    exact decodeN_take _ _ _ _ _ _ _ _ _ hw hl (fun g => by rw [getD_take l m 1 g]) (fun g => by rw [getD_take l m 2 g]) (fun g => by rw [getD_take l m 3 g]) (by unfold dL at h1; omega)

/-- The runes. -/
def rnF : Nat → List UInt8 → List Nat
  | 0, _ => []
  | f + 1, l => if l = [] then [] else (dL l).1 :: rnF f (l.drop (dL l).2)
def rn (l : List UInt8) : List Nat := rnF l.length l
theorem rnF_more : ∀ (f g : Nat) (l : List UInt8), l.length ≤ f → l.length ≤ g → rnF f l = rnF g l
  | 0, g, l, h, _ => by
    have : l = [] := List.length_eq_zero_iff.1 (by omega)
    subst this
    cases g <;> simp [rnF]
  | f + 1, 0, l, _, h => by
    have : l = [] := List.length_eq_zero_iff.1 (by omega)
    subst this
    simp [rnF]
  | f + 1, g + 1, l, h, h' => by
    by_cases hn : l = []
    · simp [rnF, hn]
    · have := dL_pos l
      simp only [rnF, if_neg hn]
      rw [rnF_more f g _ (by rw [List.length_drop]; omega) (by rw [List.length_drop]; omega)]
theorem rn_nil : rn [] = [] := rfl
theorem rn_step (l : List UInt8) (h : l ≠ []) : rn l = (dL l).1 :: rn (l.drop (dL l).2) := by
  have h0 : 0 < l.length := List.length_pos_iff.2 h
  have := dL_pos l
  obtain ⟨n, hn⟩ : ∃ n, l.length = n + 1 := ⟨l.length - 1, by omega⟩
  rw [rn, hn]
  simp only [rnF, if_neg h]
  rw [rn, rnF_more n (l.drop (dL l).2).length _ (by rw [List.length_drop]; omega) (Nat.le_refl _)]
theorem rn_len : ∀ (n : Nat) (l : List UInt8), l.length ≤ n → (rn l).length ≤ l.length
  | 0, l, h => by
    have : l = [] := List.length_eq_zero_iff.1 (by omega)
    subst this
    simp [rn_nil]
  | n + 1, l, h => by
    by_cases hn : l = []
    · simp [hn, rn_nil]
    · have h1 := dL_pos l
      have h2 := dL_le l hn
      have h3 := rn_len n (l.drop (dL l).2) (by rw [List.length_drop]; omega)
      rw [rn_step l hn, List.length_cons]
      rw [List.length_drop] at h3
      omega
theorem rn_le (l : List UInt8) : (rn l).length ≤ l.length := rn_len _ l (Nat.le_refl _)
theorem rn_all : ∀ (n : Nat) (l : List UInt8), l.length ≤ n → ∀ r ∈ rn l, Rn r
  | 0, l, h => by
    have : l = [] := List.length_eq_zero_iff.1 (by omega)
    subst this
    simp [rn_nil]
  | n + 1, l, h => by
    by_cases hn : l = []
    · simp [hn, rn_nil]
    · have h1 := dL_pos l
      have h3 := rn_all n (l.drop (dL l).2) (by rw [List.length_drop]; omega)
      rw [rn_step l hn]
      intro r hr
      rcases List.mem_cons.1 hr with hr | hr
      · rw [hr]; exact dL_rune l
      · exact h3 r hr
theorem rn_rune (l : List UInt8) : ∀ r ∈ rn l, Rn r := rn_all _ l (Nat.le_refl _)

/-- How many bytes the first k runes take. -/
def cutL : Nat → List UInt8 → Nat
  | 0, _ => 0
  | k + 1, l => if l = [] then 0 else (dL l).2 + cutL k (l.drop (dL l).2)
theorem cutL_le : ∀ (k : Nat) (l : List UInt8), cutL k l ≤ l.length
  | 0, _ => Nat.zero_le _
  | k + 1, l => by
    by_cases h : l = []
    · simp [cutL, h]
    · have h1 := cutL_le k (l.drop (dL l).2)
      have h2 := dL_le l h
      rw [List.length_drop] at h1
      simp only [cutL, if_neg h]
      omega
theorem rn_take : ∀ (k : Nat) (l : List UInt8), rn (l.take (cutL k l)) = (rn l).take k
  | 0, l => by simp [cutL, rn_nil]
  | k + 1, l => by
    by_cases h : l = []
    · simp [cutL, h, rn_nil]
    · have h1 := dL_pos l
      have h2 := dL_le l h
      have h0 : 0 < l.length := List.length_pos_iff.2 h
      simp only [cutL, if_neg h]
      have hne : l.take ((dL l).2 + cutL k (l.drop (dL l).2)) ≠ [] := by
        intro e
        have := congrArg List.length e
        rw [List.length_take, List.length_nil] at this
        omega
      rw [rn_step _ hne, dL_take l _ h (Nat.le_add_right _ _), rn_step l h, List.take_succ_cons]
      rw [List.drop_take, Nat.add_sub_cancel_left, rn_take k]
theorem rn_drop : ∀ (k : Nat) (l : List UInt8), rn (l.drop (cutL k l)) = (rn l).drop k
  | 0, l => by simp [cutL]
  | k + 1, l => by
    by_cases h : l = []
    · simp [cutL, h, rn_nil]
    · simp only [cutL, if_neg h]
      rw [rn_step l h, List.drop_succ_cons, ← rn_drop k, List.drop_drop]
/-- Past the end: all. -/
theorem cutL_all : ∀ (k : Nat) (l : List UInt8), (rn l).length ≤ k → cutL k l = l.length
  | 0, l, h => by
    by_cases hn : l = []
    · simp [cutL, hn]
    · rw [rn_step l hn] at h
      simp at h
  | k + 1, l, h => by
    by_cases hn : l = []
    · simp [cutL, hn]
    · have h2 := dL_le l hn
      rw [rn_step l hn, List.length_cons] at h
      simp only [cutL, if_neg hn]
      rw [cutL_all k _ (by omega), List.length_drop]
      omega

/-- Runes written one behind the other. -/
def enc (rs : List Nat) : List UInt8 := rs.flatMap fun (r : Nat) => encodeRune (r : Int)
theorem enc_nil : enc [] = [] := rfl
theorem enc_cons (r : Nat) (rs : List Nat) : enc (r :: rs) = encodeRune (r : Int) ++ enc rs := rfl
theorem enc_append (a b : List Nat) : enc (a ++ b) = enc a ++ enc b := by simp [enc]
theorem encodeRune_len (r : Int) : 1 ≤ (encodeRune r).length ∧ (encodeRune r).length ≤ 4 := by
  have := runeCells_le r
  rwa [runeCells_length] at this
theorem enc_len : ∀ rs : List Nat, (enc rs).length ≤ 4 * rs.length
  | [] => by simp [enc_nil]
  | r :: rs => by
    have := enc_len rs
    have := encodeRune_len (r : Int)
    rw [enc_cons, List.length_append, List.length_cons]
    omega
theorem u8_of (n : Nat) (h : n < 256) : (n.toUInt8).toNat = n := by
  rw [Nat.toUInt8, UInt8.toNat_ofNat']
  omega
theorem dL_enc (r : Nat) (hr : Rn r) (t : List UInt8) : dL (encodeRune (r : Int) ++ t) = (r, (encodeRune (r : Int)).length) := by
  unfold Rn at hr
  rcases Nat.lt_or_ge r 128 with h | h
  · have e : encodeRune (r : Int) = [r.toUInt8] := by
      rw [encodeRune, encodeRuneZ_one (by omega) (by omega)]
      rfl
    rw [e]
    simp only [dL, List.cons_append, List.nil_append, List.getD_cons_zero, u8_of r (by omega), decodeN, if_pos h, List.length_cons, List.length_nil]
  · rcases Nat.lt_or_ge r 2048 with h2 | h2
    · have e : encodeRune (r : Int) = [(192 + r / 64).toUInt8, (128 + r % 64).toUInt8] := by
        rw [encodeRune, encodeRuneZ_two (by omega) (by omega)]
        simp only [List.map_cons, List.map_nil]
        congr 2
      rw [e]
      simp only [dL, List.cons_append, List.nil_append, List.getD_cons_zero, List.getD_cons_succ, u8_of (192 + r / 64) (by omega), u8_of (128 + r % 64) (by omega), List.length_cons, List.length_nil]
      generalize ((t.getD 0 0).toNat) = x2
      generalize ((t.getD 1 0).toNat) = x3
      unfold decodeN
      rw [if_neg (by omega), if_pos (by omega), if_pos (by omega)]
      simp only [Prod.mk.injEq, and_true]
      omega
    · rcases Nat.lt_or_ge r 65536 with h3 | h3
      · have e : encodeRune (r : Int) = [(224 + r / 4096).toUInt8, (128 + r / 64 % 64).toUInt8, (128 + r % 64).toUInt8] := by
          rw [encodeRune, encodeRuneZ_three (by omega)]
          simp only [List.map_cons, List.map_nil]
          congr 3
        rw [e]
        simp only [dL, List.cons_append, List.nil_append, List.getD_cons_zero, List.getD_cons_succ, u8_of (224 + r / 4096) (by omega), u8_of (128 + r / 64 % 64) (by omega), u8_of (128 + r % 64) (by omega), List.length_cons, List.length_nil]
        generalize ((t.getD 0 0).toNat) = x3
        unfold decodeN
        rw [if_neg (by omega), if_neg (by omega), if_pos (by omega), if_pos (by omega)]
        simp only [Prod.mk.injEq, and_true]
        omega
      · have e : encodeRune (r : Int) = [(240 + r / 262144).toUInt8, (128 + r / 4096 % 64).toUInt8, (128 + r / 64 % 64).toUInt8, (128 + r % 64).toUInt8] := by
          rw [encodeRune, encodeRuneZ_four (by omega) (by omega)]
          simp only [List.map_cons, List.map_nil]
          congr 4
        rw [e]
        simp only [dL, List.cons_append, List.nil_append, List.getD_cons_zero, List.getD_cons_succ, u8_of (240 + r / 262144) (by omega), u8_of (128 + r / 4096 % 64) (by omega), u8_of (128 + r / 64 % 64) (by omega), u8_of (128 + r % 64) (by omega), List.length_cons, List.length_nil]
        unfold decodeN
        rw [if_neg (by omega), if_neg (by omega), if_neg (by omega), if_pos (by omega), if_pos (by omega)]
        simp only [Prod.mk.injEq, and_true]
        omega
theorem rn_enc : ∀ rs : List Nat, (∀ r ∈ rs, Rn r) → rn (enc rs) = rs
  | [], _ => rfl
  | r :: rs, h => by
    have h1 := encodeRune_len (r : Int)
    have hne : encodeRune (r : Int) ++ enc rs ≠ [] := by
      intro e
      have := congrArg List.length e
      simp at this
      rw [this.1] at h1
      simp at h1
    rw [enc_cons, rn_step _ hne, dL_enc r (h r (by simp)) (enc rs), List.drop_left, rn_enc rs fun x hx => h x (List.mem_cons_of_mem _ hx)]
/-- The model's own writing of a rune. -/
theorem encode_eq (r : Nat) : Utf8.encode (r : Int) = ⟨(encodeRune (r : Int)).toArray⟩ := by
  by_cases hv : Rn r
  · have hv' : Utf8.valid (r : Int) = true := by
      unfold Rn at hv
      simp only [Utf8.valid, Bool.or_eq_true, Bool.and_eq_true, decide_eq_true_eq]
      omega
    unfold Rn at hv
    simp only [Utf8.encode, hv', if_true, Int.toNat_natCast]
    rcases Nat.lt_or_ge r 128 with h | h
    · rw [if_pos h, encodeRune, encodeRuneZ_one (by omega) (by omega)]
      rfl
    · rw [if_neg (by omega)]
      rcases Nat.lt_or_ge r 2048 with h2 | h2
      · rw [if_pos h2, encodeRune, encodeRuneZ_two (by omega) (by omega)]
        rfl
      · rw [if_neg (by omega)]
        rcases Nat.lt_or_ge r 65536 with h3 | h3
        · rw [if_pos h3, encodeRune, encodeRuneZ_three (by omega)]
          rfl
        · rw [if_neg (by omega), encodeRune, encodeRuneZ_four (by omega) (by omega)]
          rfl
  · have hv' : Utf8.valid (r : Int) = false := by
      unfold Rn at hv
      simp only [Utf8.valid, Bool.or_eq_false_iff, Bool.and_eq_false_iff, decide_eq_false_iff_not]
      omega
    unfold Rn at hv
    simp only [Utf8.encode, hv', Bool.false_eq_true, if_false, Utf8.runeError]
    rw [encodeRune, encodeRuneZ_bad (by omega)]
    rfl

/-- A great letter's small one. -/
def low (r : Nat) : Nat := if 65 ≤ r ∧ r ≤ 90 then r + 32 else r
theorem low_rune (r : Nat) (h : Rn r) : Rn (low r) := by
  unfold Rn low at *
  split <;> omega
theorem low_low (r : Nat) : low (low r) = low r := by
  unfold low
  repeat' split
  all_goals omega
/-- May it stand in a name? -/
def fitR (r : Nat) : Bool := decide ((97 ≤ r ∧ r ≤ 122) ∨ (65 ≤ r ∧ r ≤ 90) ∨ (48 ≤ r ∧ r ≤ 57) ∨ r = 45 ∨ r = 95)
theorem fit_low (r : Nat) : fitR (low r) = fitR r := by
  unfold fitR low
  by_cases h : 65 ≤ r ∧ r ≤ 90
  · rw [if_pos h]
    simp only [decide_eq_decide]
    omega
  · rw [if_neg h]
/-- The document's words of a text: its runes, its small letters, is it a name, its first runes. -/
def cnt (s : ByteArray) : Nat := (rn s.data.toList).length
def fold (s : ByteArray) : List UInt8 := enc ((rn s.data.toList).map low)
def foldB (s : ByteArray) : ByteArray := ⟨(fold s).toArray⟩
def right (s : ByteArray) : Bool := decide (1 ≤ cnt s) && (decide (cnt s ≤ 8) && (rn s.data.toList).all fitR)
def shortAt (s : ByteArray) (n : Int) : Nat := cutL n.toNat s.data.toList
def short (s : ByteArray) (n : Int) : ByteArray := s.extract 0 (shortAt s n)
theorem rn_foldB (s : ByteArray) : rn (foldB s).data.toList = (rn s.data.toList).map low := by
  show rn (fold s).toArray.toList = _
  rw [List.toList_toArray, fold, rn_enc]
  intro r hr
  obtain ⟨x, hx, rfl⟩ := List.mem_map.1 hr
  exact low_rune x (rn_rune _ x hx)
theorem fold_foldB (s : ByteArray) : fold (foldB s) = fold s := by
  rw [fold, rn_foldB, List.map_map, fold]
  congr 1
  exact List.map_congr_left fun r _ => low_low r
theorem cnt_foldB (s : ByteArray) : cnt (foldB s) = cnt s := by rw [cnt, rn_foldB, List.length_map, cnt]
theorem right_foldB (s : ByteArray) : right (foldB s) = right s := by
  rw [right, right, cnt_foldB, rn_foldB, List.all_map]
  congr 2
  apply List.all_congr rfl
  intro r
  exact fit_low r
theorem fold_len (s : ByteArray) : (fold s).length ≤ 4 * s.size := by
  have h1 := enc_len ((rn s.data.toList).map low)
  have h2 := rn_le s.data.toList
  rw [List.length_map] at h1
  have h3 : s.data.toList.length = s.size := rfl
  unfold fold
  omega
end Go.Proofs.Ytgjncaobcgjefaa
