/- Numbers that go on, in plain words: the number next to the last one; what was seen, as a row. No function of the program. -/
import Derived.Test.YtmkbbndfdgnakaaBaz
namespace Go.Proofs.Ytmkbbndfdgnakaa
open Go.RowKit
set_option linter.unusedVariables false
set_option linter.unusedSimpArgs false
set_option maxRecDepth 20000

/-- Nearer from above, by one size less. -/
def backI (last x size : Int) : Int := if size / 2 < x - last ∧ size ≤ x then x - size else x
/-- The number next to last whose rest by size is n. -/
def nextI (last n size : Int) : Int :=
  if last < 0 then n
  else if size / 2 ≤ last - (last - last % size + n) then
    if 9223372036854775807 - size < last - last % size + n then last - last % size + n
    else backI last (last - last % size + n + size) size
  else backI last (last - last % size + n) size
def ext16 (last : Int) (n : Nat) : Int := nextI last (n : Int) 65536
def ext32 (last : Int) (n : Nat) : Int := nextI last (n : Int) 4294967296
theorem ext16_in {last : Int} {n : Nat} (hl : I64 last) (hn : n < 65536) : I64 (ext16 last n) ∧ 0 ≤ ext16 last n := by
  unfold I64 at *
  unfold ext16 nextI backI
  split
  · omega
  · split
    · split
      · omega
      · split <;> omega
    · split <;> omega
theorem ext32_in {last : Int} {n : Nat} (hl : I64 last) (hn : n < 4294967296) : I64 (ext32 last n) ∧ 0 ≤ ext32 last n := by
  unfold I64 at *
  unfold ext32 nextI backI
  split
  · omega
  · split
    · split
      · omega
      · split <;> omega
    · split <;> omega
theorem ext16_le {last : Int} {n : Nat} (hl : -1 ≤ last) (hl2 : last ≤ 1099511627776) (hn : n < 65536) : ext16 last n ≤ last + 65536 := by
  unfold ext16 nextI backI
  split
  · omega
  · split
    · split
      · omega
      · split <;> omega
    · split <;> omega
/-- What goes on by less than half of all is told whole. -/
theorem ext16_near {x y : Int} (hx : 0 ≤ x) (hx2 : x ≤ 1125899906842624) (hy : 0 ≤ y) (h1 : y - x < 32768) (h2 : x - y < 32768) : nextI x (y % 65536) 65536 = y := by
  unfold nextI backI
  rw [if_neg (by omega)]
  split
  · rw [if_neg (by omega)]
    split <;> omega
  · split <;> omega
theorem ext32_near {x y : Int} (hx : 0 ≤ x) (hx2 : x ≤ 1125899906842624) (hy : 0 ≤ y) (h1 : y - x < 2147483648) (h2 : x - y < 2147483648) : nextI x (y % 4294967296) 4294967296 = y := by
  unfold nextI backI
  rw [if_neg (by omega)]
  split
  · rw [if_neg (by omega)]
    split <;> omega
  · split <;> omega

/-! ### What was seen -/
/-- The one that came first, the greatest, all that were seen. -/
structure Sn where
  first : Int
  last : Int
  L : List Int
def newS : Sn := ⟨-1, -1, []⟩
def okX (s : Sn) (x : Int) : Bool := decide (s.last < 0) || decide (s.last < x) || (decide (s.last - x ≤ 63) && decide (x ∉ s.L))
def addX (s : Sn) (x : Int) : Sn := if okX s x = true then ⟨if s.last < 0 then x else s.first, max s.last x, s.L ++ [x]⟩ else s
def addS (s : Sn) (n : Nat) : Sn := addX s (ext16 s.last n)
def okS (s : Sn) (n : Nat) : Bool := okX s (ext16 s.last n)
def hadS (s : Sn) : Nat := s.L.countP fun y => decide (s.first ≤ y)
def lostS (s : Sn) : Int := if s.last < 0 then 0 else s.last - s.first + 1 - (hadS s : Int)
/-- What holds of it, m calls on. -/
structure SnOk (s : Sn) (m : Nat) : Prop where
  none : s.last < 0 → s = newS
  lo : ∀ y ∈ s.L, 0 ≤ y
  hi : ∀ y ∈ s.L, y ≤ s.last
  low : -1 ≤ s.last
  fst : 0 ≤ s.last → s.first ∈ s.L
  nod : s.L.Nodup
  len : s.L.length ≤ m
  top : s.last ≤ 65536 * (m : Int)
theorem newS_ok : SnOk newS 0 := ⟨fun _ => rfl, by simp [newS], by simp [newS], by simp [newS], by simp [newS], by simp [newS], by simp [newS], by simp [newS]⟩
theorem SnOk.more {s : Sn} {m k : Nat} (h : SnOk s m) (hk : m ≤ k) : SnOk s k := ⟨h.none, h.lo, h.hi, h.low, h.fst, h.nod, Nat.le_trans h.len hk, by have := h.top; omega⟩
theorem SnOk.firstLo {s : Sn} {m : Nat} (h : SnOk s m) : -1 ≤ s.first ∧ s.first ≤ s.last := by
  by_cases hl : s.last < 0
  · rw [h.none hl]
    simp [newS]
  · have := h.fst (by omega)
    have h1 := h.lo _ this
    have h2 := h.hi _ this
    omega
theorem okX_iff {s : Sn} {x : Int} : okX s x = true ↔ s.last < 0 ∨ s.last < x ∨ (s.last - x ≤ 63 ∧ x ∉ s.L) := by
  unfold okX
  simp
  rw [or_assoc]
theorem addX_ok {s : Sn} {m : Nat} (h : SnOk s m) {x : Int} (hx : 0 ≤ x) (hx2 : x ≤ s.last + 65536) : SnOk (addX s x) (m + 1) := by
  unfold addX
  by_cases hok : okX s x = true
  · rw [if_pos hok]
    have hi := okX_iff.1 hok
    have hnx : x ∉ s.L := by
      rcases hi with h1 | h1 | h1
      · rw [h.none h1]
        simp [newS]
      · intro hm
        have := h.hi x hm
        omega
      · exact h1.2
    have hlow := h.low
    have htop := h.top
    refine ⟨fun hl => ?_, fun y hy => ?_, fun y hy => ?_, ?_, fun hl => ?_, ?_, ?_, ?_⟩
    · simp only at hl
      omega
    · rcases List.mem_append.1 hy with h1 | h1
      · exact h.lo y h1
      · rw [List.mem_singleton] at h1
        omega
    · rcases List.mem_append.1 hy with h1 | h1
      · have := h.hi y h1
        simp only
        omega
      · rw [List.mem_singleton] at h1
        simp only
        omega
    · simp only
      omega
    · simp only
      by_cases h1 : s.last < 0
      · rw [if_pos h1]
        simp
      · rw [if_neg h1]
        exact List.mem_append_left _ (h.fst (by omega))
    · rw [List.nodup_append]
      refine ⟨h.nod, by simp, fun a ha b hb e => ?_⟩
      rw [List.mem_singleton] at hb
      subst hb
      subst e
      exact hnx ha
    · simp only [List.length_append, List.length_singleton]
      have := h.len
      omega
    · simp only
      omega
  · rw [if_neg hok]
    exact h.more (Nat.le_succ m)
theorem addS_ok {s : Sn} {m : Nat} (h : SnOk s m) (hm : m ≤ 1000000) {n : Nat} (hn : n < 65536) : SnOk (addS s n) (m + 1) := by
  have ht := h.top
  have hl := h.low
  refine addX_ok h (ext16_in (by unfold I64; omega) hn).2 (ext16_le hl (by omega) hn)

/-! ### A mask of those below the last one -/
/-- Bit i tells whether the one i below the last was seen. -/
def MaskOf (s : Sn) (M : Nat) : Prop := M < 18446744073709551616 ∧ ∀ i, i < 64 → (M.testBit i = true ↔ s.last - (i : Int) ∈ s.L)
theorem mask_first {s : Sn} {m : Nat} (h : SnOk s m) {x : Int} (hl : s.last < 0) (hx : 0 ≤ x) : addX s x = ⟨x, x, [x]⟩ ∧ MaskOf (addX s x) 1 ∧ hadS (addX s x) = 1 := by
  have e : addX s x = ⟨x, x, [x]⟩ := by
    unfold addX
    rw [if_pos (okX_iff.2 (.inl hl)), if_pos hl, h.none hl]
    simp only [newS, List.nil_append, Sn.mk.injEq, and_true, true_and]
    omega
  rw [e]
  refine ⟨rfl, ⟨by decide, fun i hi => ?_⟩, by simp [hadS]⟩
  simp only [List.mem_singleton]
  by_cases h0 : i = 0
  · subst h0
    simp
  · have : Nat.testBit 1 i = false := by
      rw [show (1 : Nat) = 2 ^ 0 from rfl, Nat.testBit_two_pow]
      simp
      omega
    rw [this]
    simp
    omega
theorem had_app (s : Sn) (f : Int) (x : Int) (L : List Int) : (L ++ [x]).countP (fun y => decide (f ≤ y)) = L.countP (fun y => decide (f ≤ y)) + (if f ≤ x then 1 else 0) := by
  rw [List.countP_append]
  by_cases h : f ≤ x <;> simp [h]
theorem mask_up {s : Sn} {m M : Nat} (h : SnOk s m) (hM : MaskOf s M) {x : Int} (hl : 0 ≤ s.last) (hx : s.last < x) {M2 : Nat} (hM2 : M2 = if 63 < x - s.last then 0 else (M <<< (x - s.last).toNat) % 18446744073709551616) :
    addX s x = ⟨s.first, x, s.L ++ [x]⟩ ∧ MaskOf (addX s x) (M2 ||| 1) ∧ hadS (addX s x) = hadS s + 1 := by
  have e : addX s x = ⟨s.first, x, s.L ++ [x]⟩ := by
    unfold addX
    rw [if_pos (okX_iff.2 (.inr (.inl hx))), if_neg (by omega), Int.max_eq_right (by omega)]
  have hf := h.firstLo
  rw [e]
  refine ⟨rfl, ⟨?_, fun i hi => ?_⟩, ?_⟩
  · have : M2 < 2 ^ 64 := by
      rw [hM2]
      split
      · decide
      · exact Nat.mod_lt _ (by decide)
    exact Nat.or_lt_two_pow this (by decide)
  · simp only [List.mem_append, List.mem_singleton]
    rw [Nat.testBit_or]
    by_cases h0 : i = 0
    · subst h0
      simp
    · have hb1 : Nat.testBit 1 i = false := by
        rw [show (1 : Nat) = 2 ^ 0 from rfl, Nat.testBit_two_pow]
        simp
        omega
      rw [hb1, Bool.or_false]
      have hnx : ¬ x - (i : Int) = x := by omega
      by_cases hd : 63 < x - s.last
      · rw [if_pos hd] at hM2
        rw [hM2, Nat.zero_testBit]
        constructor
        · intro hh; cases hh
        · rintro (h1 | h1)
          · have := h.hi _ h1
            omega
          · exact absurd h1 hnx
      · rw [if_neg hd] at hM2
        rw [hM2, show 18446744073709551616 = 2 ^ 64 from rfl, Nat.testBit_mod_two_pow, Nat.testBit_shiftLeft]
        simp only [hi, decide_true, Bool.true_and]
        obtain ⟨d, hd'⟩ : ∃ d : Nat, x - s.last = d := ⟨(x - s.last).toNat, by omega⟩
        rw [hd', Int.toNat_natCast]
        by_cases hdi : d ≤ i
        · have hb := hM.2 (i - d) (by omega)
          rw [show s.last - ((i - d : Nat) : Int) = x - (i : Int) by omega] at hb
          have hge : decide (i ≥ d) = true := by simpa using hdi
          rw [hge, Bool.true_and, hb]
          constructor
          · exact fun h => .inl h
          · rintro (h1 | h1)
            · exact h1
            · exact absurd h1 hnx
        · have hge : decide (i ≥ d) = false := by simpa using hdi
          rw [hge, Bool.false_and]
          constructor
          · intro hh; cases hh
          · rintro (h1 | h1)
            · have := h.hi _ h1
              omega
            · exact absurd h1 hnx
  · unfold hadS
    simp only
    rw [had_app s, if_pos (by omega)]
theorem mask_bit {s : Sn} {m M : Nat} (h : SnOk s m) (hM : MaskOf s M) {x : Int} (hl : 0 ≤ s.last) (hx : x ≤ s.last) (hd : s.last - x ≤ 63) : (M / 2 ^ (s.last - x).toNat) % 2 = (if x ∈ s.L then 1 else 0) := by
  obtain ⟨d, hd'⟩ : ∃ d : Nat, s.last - x = d := ⟨(s.last - x).toNat, by omega⟩
  rw [hd', Int.toNat_natCast]
  have hb := hM.2 d (by omega)
  rw [show s.last - (d : Int) = x by omega] at hb
  rw [Nat.testBit_eq_decide_div_mod_eq] at hb
  have h2 := Nat.mod_two_eq_zero_or_one (M / 2 ^ d)
  by_cases hm : x ∈ s.L
  · rw [if_pos hm]
    simpa using hb.2 hm
  · rw [if_neg hm]
    rcases h2 with h3 | h3
    · exact h3
    · exact absurd (hb.1 (by simpa using h3)) hm
theorem mask_down {s : Sn} {m M : Nat} (h : SnOk s m) (hM : MaskOf s M) {x : Int} (hl : 0 ≤ s.last) (hx : x ≤ s.last) (hd : s.last - x ≤ 63) (hn : x ∉ s.L) :
    addX s x = ⟨s.first, s.last, s.L ++ [x]⟩ ∧ MaskOf (addX s x) (M ||| 2 ^ (s.last - x).toNat) ∧ hadS (addX s x) = hadS s + (if s.first < x then 1 else 0) := by
  have e : addX s x = ⟨s.first, s.last, s.L ++ [x]⟩ := by
    unfold addX
    rw [if_pos (okX_iff.2 (.inr (.inr ⟨hd, hn⟩))), if_neg (by omega), Int.max_eq_left (by omega)]
  obtain ⟨d, hd'⟩ : ∃ d : Nat, s.last - x = d := ⟨(s.last - x).toNat, by omega⟩
  rw [e, hd', Int.toNat_natCast]
  refine ⟨rfl, ⟨?_, fun i hi => ?_⟩, ?_⟩
  · exact Nat.or_lt_two_pow (n := 64) hM.1 (Nat.pow_lt_pow_right (by decide) (by omega))
  · simp only [List.mem_append, List.mem_singleton]
    rw [Nat.testBit_or, Nat.testBit_two_pow, Bool.or_eq_true, hM.2 i hi]
    simp only [decide_eq_true_eq]
    constructor
    · rintro (h1 | h1)
      · exact .inl h1
      · exact .inr (by omega)
    · rintro (h1 | h1)
      · exact .inl h1
      · exact .inr (by omega)
  · unfold hadS
    simp only
    rw [had_app s]
    have hne : x ≠ s.first := fun e => hn (e ▸ h.fst hl)
    by_cases hf : s.first < x
    · rw [if_pos hf, if_pos (by omega)]
    · rw [if_neg hf, if_neg (by omega)]
theorem add_no {s : Sn} {x : Int} (hl : 0 ≤ s.last) (hx : x ≤ s.last) (h : 63 < s.last - x ∨ x ∈ s.L) : addX s x = s ∧ okX s x = false := by
  have hf : okX s x = false := by
    cases hk : okX s x with
    | false => rfl
    | true =>
      rcases okX_iff.1 hk with h1 | h1 | h1
      · omega
      · omega
      · rcases h with h2 | h2
        · omega
        · exact absurd h2 h1.2
  exact ⟨by unfold addX; rw [hf]; simp, hf⟩
end Go.Proofs.Ytmkbbndfdgnakaa
