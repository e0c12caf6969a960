/- What bytes of extensions are read as, and that elements are read as they were written. No program's function. -/
import Derived.Test.YtpcdmcaojgpfoaaCR3Elems
import Derived.Test.YtpcdmcaojgpfoaaRdP
namespace Go.Proofs.Ytpcdmcaojgpfoaa
open Go.RowKit
set_option linter.unusedVariables false
set_option linter.unusedSimpArgs false
set_option maxRecDepth 20000

/-- An element as data. -/
def El.dat (e : El) : Int × List UInt8 := (e.id, e.d)
/-- A byte that ends the elements. -/
def endB (one : Bool) (c : Nat) : Bool := one && (decide (14 < c / 16) || (decide (c / 16 = 0) && decide (c % 16 ≠ 0)))
/-- A head: ID, how many bytes, what is behind it. -/
def hdE (one : Bool) (c : Nat) (r : List UInt8) : Option (Int × Nat × List UInt8) :=
  if one then some (((c / 16 : Nat) : Int), c % 16 + 1, r) else match r with
  | [] => none
  | m :: s => some ((c : Int), m.toNat, s)
def rdF (one : Bool) : Nat → List UInt8 → Option (List (Int × List UInt8))
  | 0, _ => some []
  | _ + 1, [] => some []
  | k + 1, c :: r => if c.toNat = 0 then rdF one k r else if endB one c.toNat = true then some [] else match hdE one c.toNat r with
    | none => none
    | some (id, n, s) => if n ≤ s.length then (rdF one k (s.drop n)).map ((id, s.take n) :: ·) else none
theorem hd_len {one : Bool} {c : Nat} {r s : List UInt8} {id : Int} {n : Nat} (h : hdE one c r = some (id, n, s)) : s.length ≤ r.length := by
  unfold hdE at h
  cases one with
  | true =>
    simp at h
    rw [h.2.2]
    exact Nat.le_refl _
  | false =>
    cases r with
    | nil => simp at h
    | cons m t =>
      simp at h
      rw [← h.2.2]
      simp
theorem rdF_fuel (one : Bool) : ∀ (k k' : Nat) (m : List UInt8), m.length ≤ k → m.length ≤ k' → rdF one k m = rdF one k' m
  | 0, k', m, h, _ => by
    obtain rfl := List.eq_nil_of_length_eq_zero (Nat.le_zero.1 h)
    cases k' <;> rfl
  | k + 1, 0, m, _, h => by
    obtain rfl := List.eq_nil_of_length_eq_zero (Nat.le_zero.1 h)
    rfl
  | k + 1, k' + 1, [], _, _ => rfl
  | k + 1, k' + 1, c :: r, h, h' => by
    have a : r.length ≤ k := by simpa using h
    have b : r.length ≤ k' := by simpa using h'
    simp only [rdF]
    rw [rdF_fuel one k k' r a b]
    cases e : hdE one c.toNat r with
    | none => rfl
    | some x =>
      obtain ⟨id, n, s⟩ := x
      have hs := hd_len e
      simp only
      rw [rdF_fuel one k k' (s.drop n) (by simp; omega) (by simp; omega)]
/-- The elements; none where one is cut off. -/
def rdA (one : Bool) (m : List UInt8) : Option (List (Int × List UInt8)) := rdF one m.length m
theorem rdA_nil (one : Bool) : rdA one [] = some [] := rfl
theorem rdA_cons (one : Bool) (c : UInt8) (r : List UInt8) : rdA one (c :: r) = if c.toNat = 0 then rdA one r else if endB one c.toNat = true then some [] else match hdE one c.toNat r with
    | none => none
    | some (id, n, s) => if n ≤ s.length then (rdA one (s.drop n)).map ((id, s.take n) :: ·) else none := by
  unfold rdA
  rw [List.length_cons, rdF]
  cases e : hdE one c.toNat r with
  | none => rfl
  | some x =>
    obtain ⟨id, n, s⟩ := x
    have hs := hd_len e
    simp only
    rw [rdF_fuel one r.length (s.drop n).length (s.drop n) (by simp; omega) (Nat.le_refl _)]
theorem bt_drop {l : List UInt8} {i : Nat} (h : i < l.length) : ∃ c : UInt8, c.toNat = bt l i ∧ l.drop i = c :: l.drop (i + 1) :=
  ⟨l[i], by simp [bt, List.getD, h], List.drop_eq_getElem_cons h⟩

/-! ### By places -/
section
variable {l : List UInt8} {i : Nat} (h : i < l.length)
include h
theorem rd_zero (one : Bool) (hz : bt l i = 0) : rdA one (l.drop i) = rdA one (l.drop (i + 1)) := by
  obtain ⟨c, hc, e⟩ := bt_drop h
  rw [e, rdA_cons, if_pos (hc.trans hz)]
theorem rd_end {one : Bool} (hz : bt l i ≠ 0) (he : endB one (bt l i) = true) : rdA one (l.drop i) = some [] := by
  obtain ⟨c, hc, e⟩ := bt_drop h
  rw [e, rdA_cons, if_neg (by rw [hc]; exact hz), if_pos (by rw [hc]; exact he)]
theorem rd_one (hz : bt l i ≠ 0) (he : endB true (bt l i) = false) (hn : i + 1 + (bt l i % 16 + 1) ≤ l.length) :
    rdA true (l.drop i) = (rdA true (l.drop (i + 1 + (bt l i % 16 + 1)))).map ((((bt l i / 16 : Nat) : Int), (l.drop (i + 1)).take (bt l i % 16 + 1)) :: ·) := by
  obtain ⟨c, hc, e⟩ := bt_drop h
  rw [e, rdA_cons, if_neg (by rw [hc]; exact hz), if_neg (by rw [hc, he]; simp), hc]
  simp only [hdE, if_true]
  rw [if_pos (by simp; omega), List.drop_drop]
theorem rd_one_no (hz : bt l i ≠ 0) (he : endB true (bt l i) = false) (hn : ¬ i + 1 + (bt l i % 16 + 1) ≤ l.length) : rdA true (l.drop i) = none := by
  obtain ⟨c, hc, e⟩ := bt_drop h
  rw [e, rdA_cons, if_neg (by rw [hc]; exact hz), if_neg (by rw [hc, he]; simp), hc]
  simp only [hdE, if_true]
  rw [if_neg (by simp; omega)]
theorem rd_two (hz : bt l i ≠ 0) (h1 : i + 1 < l.length) (hn : i + 2 + bt l (i + 1) ≤ l.length) :
    rdA false (l.drop i) = (rdA false (l.drop (i + 2 + bt l (i + 1)))).map ((((bt l i : Nat) : Int), (l.drop (i + 2)).take (bt l (i + 1))) :: ·) := by
  obtain ⟨c, hc, e⟩ := bt_drop h
  obtain ⟨d, hd, e'⟩ := bt_drop h1
  rw [e, e', rdA_cons, if_neg (by rw [hc]; exact hz), if_neg (by simp [endB]), hc]
  simp only [hdE, Bool.false_eq_true, if_false]
  rw [hd, if_pos (by simp; omega), List.drop_drop]
theorem rd_two_no (hz : bt l i ≠ 0) (hn : i + 1 < l.length → ¬ i + 2 + bt l (i + 1) ≤ l.length) : rdA false (l.drop i) = none := by
  obtain ⟨c, hc, e⟩ := bt_drop h
  rw [e, rdA_cons, if_neg (by rw [hc]; exact hz), if_neg (by simp [endB]), hc]
  by_cases h1 : i + 1 < l.length
  · obtain ⟨d, hd, e'⟩ := bt_drop h1
    have := hn h1
    rw [e']
    simp only [hdE, Bool.false_eq_true, if_false]
    rw [hd, if_neg (by simp; omega)]
  · rw [List.drop_eq_nil_of_le (by omega)]
    simp [hdE]
end
theorem rd_past {l : List UInt8} {i : Nat} (h : l.length ≤ i) (one : Bool) : rdA one (l.drop i) = some [] := by
  rw [List.drop_eq_nil_of_le h, rdA_nil]
/-- Behind place i: what was read so far. -/
def RdTo (one : Bool) (l : List UInt8) (i : Nat) (acc : List (Int × List UInt8)) : Prop := rdA one l = (rdA one (l.drop i)).map (acc ++ ·)
theorem RdTo.start (one : Bool) (l : List UInt8) : RdTo one l 0 [] := by
  unfold RdTo
  simp
theorem RdTo.same {one : Bool} {l : List UInt8} {i j : Nat} {acc : List (Int × List UInt8)} (h : RdTo one l i acc) (e : rdA one (l.drop i) = rdA one (l.drop j)) : RdTo one l j acc := by
  unfold RdTo at *
  rw [h, e]
theorem RdTo.more {one : Bool} {l : List UInt8} {i j : Nat} {acc : List (Int × List UInt8)} {x : Int × List UInt8} (h : RdTo one l i acc) (e : rdA one (l.drop i) = (rdA one (l.drop j)).map (x :: ·)) : RdTo one l j (acc ++ [x]) := by
  unfold RdTo at *
  rw [h, e, Option.map_map]
  congr 1
  funext r
  simp
theorem RdTo.done {one : Bool} {l : List UInt8} {i : Nat} {acc : List (Int × List UInt8)} (h : RdTo one l i acc) (e : rdA one (l.drop i) = some []) : rdA one l = some acc := by
  unfold RdTo at h
  rw [h, e]
  simp
theorem RdTo.none {one : Bool} {l : List UInt8} {i : Nat} {acc : List (Int × List UInt8)} (h : RdTo one l i acc) (e : rdA one (l.drop i) = none) : rdA one l = none := by
  unfold RdTo at h
  rw [h, e]
  rfl

/-! ### What is answered -/
def rdErrE (one : Bool) (l : List UInt8) : Int := match rdA one l with
  | none => 13
  | some E => if 8 < E.length then 3 else 0
def rdOutE (one : Bool) (l : List UInt8) : List (Int × List UInt8) := match rdA one l with
  | none => []
  | some E => if 8 < E.length then [] else E
def errR (prof : Nat) (l : List UInt8) : Int := if prof ≠ 48862 ∧ prof ≠ 4096 then 1 else rdErrE (isOne prof) l
def outR (prof : Nat) (l : List UInt8) : List (Int × List UInt8) := if prof ≠ 48862 ∧ prof ≠ 4096 then [] else rdOutE (isOne prof) l
theorem errR_other {prof : Nat} {l : List UInt8} (h : prof ≠ 48862 ∧ prof ≠ 4096) : errR prof l = 1 ∧ outR prof l = [] := ⟨if_pos h, if_pos h⟩
theorem errR_in {prof : Nat} (hp : prof = 48862 ∨ prof = 4096) (l : List UInt8) : errR prof l = rdErrE (isOne prof) l ∧ outR prof l = rdOutE (isOne prof) l := ⟨if_neg (by omega), if_neg (by omega)⟩
theorem errR_short {prof : Nat} {l : List UInt8} (hp : prof = 48862 ∨ prof = 4096) (h : rdA (isOne prof) l = none) : errR prof l = 13 ∧ outR prof l = [] := by
  rw [(errR_in hp l).1, (errR_in hp l).2]
  simp [rdErrE, rdOutE, h]
theorem errR_long {prof : Nat} {l : List UInt8} {E : List (Int × List UInt8)} (hp : prof = 48862 ∨ prof = 4096) (h : rdA (isOne prof) l = some E) (h8 : 8 < E.length) : errR prof l = 3 ∧ outR prof l = [] := by
  rw [(errR_in hp l).1, (errR_in hp l).2]
  simp [rdErrE, rdOutE, h, h8]
theorem errR_ok {prof : Nat} {l : List UInt8} {E : List (Int × List UInt8)} (hp : prof = 48862 ∨ prof = 4096) (h : rdA (isOne prof) l = some E) (h8 : ¬ 8 < E.length) : errR prof l = 0 ∧ outR prof l = E := by
  rw [(errR_in hp l).1, (errR_in hp l).2]
  simp [rdErrE, rdOutE, h, h8]
theorem rdF_small (one : Bool) : ∀ (k : Nat) (m : List UInt8) (E : List (Int × List UInt8)), rdF one k m = some E → ∀ x ∈ E, 0 ≤ x.1 ∧ x.1 ≤ 255 ∧ x.2.length ≤ 255
  | 0, m, E, h, x, hx => by
    simp only [rdF, Option.some.injEq] at h
    subst h
    simp at hx
  | k + 1, [], E, h, x, hx => by
    simp only [rdF, Option.some.injEq] at h
    subst h
    simp at hx
  | k + 1, c :: r, E, h, x, hx => by
    simp only [rdF] at h
    have hc := c.toNat_lt
    split at h
    · exact rdF_small one k r E h x hx
    · split at h
      · simp only [Option.some.injEq] at h
        subst h
        simp at hx
      · cases e : hdE one c.toNat r with
        | none => rw [e] at h; simp at h
        | some y =>
          obtain ⟨id, n, s⟩ := y
          rw [e] at h
          simp only at h
          have hb : 0 ≤ id ∧ id ≤ 255 ∧ n ≤ 255 := by
            unfold hdE at e
            cases one with
            | true =>
              simp at e
              omega
            | false =>
              cases r with
              | nil => simp at e
              | cons m t =>
                have := m.toNat_lt
                simp at e
                omega
          split at h
          · cases e2 : rdF one k (s.drop n) with
            | none => rw [e2] at h; simp at h
            | some F =>
              rw [e2] at h
              simp only [Option.map_some, Option.some.injEq] at h
              subst h
              rcases List.mem_cons.1 hx with rfl | hx
              · refine ⟨hb.1, hb.2.1, ?_⟩
                simp only [List.length_take]
                omega
              · exact rdF_small one k _ F e2 x hx
          · simp at h
theorem outR_small (prof : Nat) (l : List UInt8) : ∀ x ∈ outR prof l, 0 ≤ x.1 ∧ x.1 ≤ 255 ∧ x.2.length ≤ 255 := by
  intro x hx
  unfold outR at hx
  split at hx
  · simp at hx
  · unfold rdOutE at hx
    cases e : rdA (isOne prof) l with
    | none => rw [e] at hx; simp at hx
    | some E =>
      rw [e] at hx
      simp only at hx
      split at hx
      · simp at hx
      · exact rdF_small _ _ _ _ e x hx
theorem outR_few (prof : Nat) (l : List UInt8) : (outR prof l).length ≤ 8 := by
  unfold outR
  split
  · simp
  · unfold rdOutE
    split
    · simp
    · split
      · simp
      · omega

/-! ### Read as written -/
theorem rdA_zeros (one : Bool) (r : List UInt8) : ∀ k, rdA one (List.replicate k 0 ++ r) = rdA one r
  | 0 => rfl
  | k + 1 => by
    rw [List.replicate_succ, List.cons_append, rdA_cons, if_pos (by decide), rdA_zeros one r k]
theorem rdA_elB (one : Bool) (e : El) (hb : badE one e = false) (r : List UInt8) : rdA one (elB one e ++ r) = (rdA one r).map (e.dat :: ·) := by
  cases one with
  | true =>
    have h2 : 1 ≤ e.id ∧ e.id ≤ 14 ∧ 1 ≤ e.d.length ∧ e.d.length ≤ 16 := by
      simp only [badE, Bool.true_and, Bool.or_eq_false_iff, decide_eq_false_iff_not] at hb
      omega
    have hc : (UInt8.ofNat (16 * e.id.toNat + e.d.length - 1)).toNat = 16 * e.id.toNat + e.d.length - 1 := by simp; omega
    unfold elB
    simp only [if_true, List.cons_append, List.nil_append]
    rw [rdA_cons, if_neg (by rw [hc]; omega), hc, if_neg (by simp [endB]; omega)]
    simp only [hdE, if_true]
    rw [if_pos (by simp; omega), show (16 * e.id.toNat + e.d.length - 1) % 16 + 1 = e.d.length by omega]
    rw [List.drop_left, List.take_left, show (((16 * e.id.toNat + e.d.length - 1) / 16 : Nat) : Int) = e.id by omega]
    rfl
  | false =>
    have h2 : 1 ≤ e.id ∧ e.id ≤ 255 ∧ e.d.length ≤ 255 := by
      simp only [badE, Bool.false_and, Bool.false_or, Bool.or_eq_false_iff, decide_eq_false_iff_not] at hb
      omega
    have hc : (UInt8.ofNat e.id.toNat).toNat = e.id.toNat := by simp; omega
    have hd : (UInt8.ofNat e.d.length).toNat = e.d.length := by simp; omega
    unfold elB
    simp only [Bool.false_eq_true, if_false, List.cons_append, List.nil_append]
    rw [rdA_cons, if_neg (by rw [hc]; omega), hc, if_neg (by simp [endB])]
    simp only [hdE, Bool.false_eq_true, if_false]
    rw [hd, if_pos (by simp), List.drop_left, List.take_left, show ((e.id.toNat : Nat) : Int) = e.id by omega]
    rfl
theorem rdA_elBs (one : Bool) (r : List UInt8) : ∀ (E : List El), (∀ e ∈ E, badE one e = false) → rdA one (elBs one E ++ r) = (rdA one r).map (E.map El.dat ++ ·)
  | [], _ => by simp [elBs]
  | e :: E, h => by
    have e1 : elBs one (e :: E) ++ r = elB one e ++ (elBs one E ++ r) := by simp [elBs]
    rw [e1, rdA_elB one e (h e (by simp)), rdA_elBs one r E fun x hx => h x (List.mem_cons_of_mem _ hx), Option.map_map]
    congr 1
theorem rdA_zeros' (one : Bool) (k : Nat) : rdA one (List.replicate k 0) = some [] := by
  have := rdA_zeros one [] k
  rwa [List.append_nil] at this
theorem rdA_padL (one : Bool) (E : List El) (h : ∀ e ∈ E, badE one e = false) (t : Int) : rdA one (padL (elBs one E) t) = some (E.map El.dat) := by
  unfold padL
  rw [rdA_elBs one _ E h, rdA_zeros']
  simp
end Go.Proofs.Ytpcdmcaojgpfoaa
