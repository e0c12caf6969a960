/- Contracts of the project's bound: Rate, Holds, Owns. -/
import Derived.Test.YtlbndhbfmjefeaaBdS
namespace Go.Proofs.Ytlbndhbfmjefeaa
open Go.RowKit
set_option linter.unusedVariables false
set_option linter.unusedSimpArgs false
set_option maxRecDepth 20000

theorem foldR_mem {t : Ln} : ∀ (l : List Ln) (n : Nat), t ∈ l → l.foldl (fun n (t : Ln) => min n t.r) n ≤ t.r
  | x :: r, n, h => by
    rw [List.foldl_cons]
    rcases List.mem_cons.1 h with rfl | h
    · have := foldR_le r (min n t.r)
      omega
    · exact foldR_mem r _ h
theorem foldR_ge {k : Nat} : ∀ (l : List Ln) (n : Nat), k ≤ n → (∀ t ∈ l, k ≤ t.r) → k ≤ l.foldl (fun n (t : Ln) => min n t.r) n
  | [], n, h, _ => h
  | x :: r, n, h, ha => by
    rw [List.foldl_cons]
    exact foldR_ge r _ (by have := ha x List.mem_cons_self; omega) fun t ht => ha t (List.mem_cons_of_mem _ ht)
theorem minR_least {l : List Ln} {a : Ln} (h : IsLeast l a) (ha : a.In) : minR l = a.r := by
  have h1 := foldR_mem l 18446744073709551615 h.1
  have h2 := foldR_ge l 18446744073709551615 (k := a.r) (by have := ha.r; omega) fun t ht => by
    have := h.2 t ht
    unfold fstL at this
    omega
  unfold minR
  omega
theorem rate_ls {ls : List Ln} {sm : Bool} {a : Ln} (h : LsS ls sm a) (ha : a.In) : Value.tuple #[.int .u64 (a.r : Int), .bool sm] = rateV ls := by
  cases sm
  · have h : ls = [] ∧ a = ⟨0, 0, 0⟩ := h
    rw [rateV_no (by rw [h.1]; rfl), h.2]
    rfl
  · have h : IsLeast ls a := h
    rw [rateV_yes (by intro h0; rw [List.eq_nil_of_length_eq_zero h0] at h; cases h.1), minR_least h ha]
theorem bd_rate {A : Option Addr} {n c : Nat} {l : List Tup} {w : World} (h : RT w w.heap.size A n c l) (hn : n ≤ 100000) :
    Calls Try.prog 16 #[.slice A n c] w (AnsB (rateV (heldR l)) w) := by
  have HC := Lib.hid (bd_first A n c l w h (by omega))
  clear h
  go_enter Try.func16, Try.ntmps16
  go_wp2_with fail
  ((with_reducible refine HC.out.mono ?_); rintro e W1 ⟨⟨bo, br, bv, sm, h1, h2, rfl⟩, b1⟩)
  have HV := Lib.hid (rate_ls h1 h2)
  have HB := Lib.hid (b1.trans ((belowA W1 (.cells #[.int .u32 (bo : Int), .int .u64 (br : Int), .int .i64 (bv : Int)] 30)).mono b1.size))
  clear h1 h2 b1 HC
  go_wp2_with fail
  go_ret2
  exact ⟨by rw [← HV.out]; rfl, HB.out⟩
set_option maxHeartbeats 4000000 in
theorem bd_holds {A : Option Addr} {n c : Nat} {l : List Tup} {w : World} (h : RT w w.heap.size A n c l) (hn : n ≤ 100000) {p : Nat} (hp : p < 18446744073709551616) :
    Calls Try.prog 13 #[.slice A n c, .int .u64 (p : Int)] w (AnsB (.int .u64 ((letA 18446744073709551615 (8 * min p 4294967296) (heldR l) : Nat) : Int)) w) := by
  have HL : Hid (l.length = n) := Lib.hid h.1
  have HR := Lib.hid h
  clear h
  obtain ⟨ls, hls⟩ : ∃ ls, ls = heldR l := ⟨_, rfl⟩
  rw [← hls]
  have HLS := Lib.hid hls
  clear hls
  obtain ⟨x, hx⟩ : ∃ x, x = min p 4294967296 := ⟨_, rfl⟩
  rw [← hx]
  have hx32 : x ≤ 4294967296 := by omega
  obtain ⟨F, hF⟩ : ∃ F : List Ln → Nat, F = letA 18446744073709551615 (8 * x) := ⟨_, rfl⟩
  rw [← hF]
  have HF : Hid (F [] = 18446744073709551615 ∧ (∀ l t, F (l ++ [t]) = min (F l) (letL (8 * x) t)) ∧ ∀ l, F l ≤ 18446744073709551615) := Lib.hid (by
    rw [hF]
    exact ⟨rfl, fun l t => letA_snoc _ _ l t, fun l => letA_top l⟩)
  clear hF
  have hpx : (p ≤ 4294967296 ∧ p = x) ∨ (4294967296 < p ∧ x = 4294967296) := by omega
  clear hx
  rcases hpx with ⟨hp2, rfl⟩ | ⟨hp2, rfl⟩
  · have w1 : (p : Int) ≤ 4294967296 := by omega
    have w2 : ¬ (4294967296 : Int) < (p : Int) := by omega
    go_enter Try.func13, Try.ntmps13
    go_wp2_with fail
    go_loopw [5, 10] (fun v i wr => ∃ q : Nat, q ≤ n ∧ i = .int .i64 (q : Int) ∧ v = .int .u64 ((F (ls.take q) : Nat) : Int) ∧ Hid (Below w.heap.size w wr)) (fun _ i _ => n - (intOf i).toNat)
    case atStart => exact ⟨0, by omega, rfl, by rw [show ls.take 0 = [] from rfl, HF.out.1]; rfl, Lib.hid (Below.refl _ _)⟩
    case round =>
      obtain ⟨q, hq, rfl, rfl, HM⟩ := hrel
      by_cases hlt : q < n
      · have hql : q < l.length := by rw [HL.out]; exact hlt
        obtain ⟨bA, off, rfl, hbA, c0, c1', c2⟩ := (HR.out.below HM.out).at (q := q) hql
        have HT : Hid (ls.take (q + 1) = ls.take q ++ [holdT l[q]]) := Lib.hid (by rw [HLS.out]; exact held_take hql)
        have hti := HR.out.2.1 l[q] (List.getElem_mem hql)
        generalize l[q] = t at c0 c1' c2 HT hti
        have HC := Lib.hid (bd_held t hti)
        have hyI := holdT_in hti
        obtain ⟨y, hy⟩ : ∃ y, y = holdT t := ⟨_, rfl⟩
        rw [← hy] at HC HT hyI
        clear hy hti
        have HC2 := Lib.hid (show ∀ W, Calls Try.prog 23 #[y.val, .int .u64 (p : Int)] W (AnsB (.int .u64 ((letL (8 * p) y : Nat) : Int)) W) from bd_lets y hyI p (by omega))
        have hs : F (ls.take (q + 1)) = min (F (ls.take q)) (letL (8 * p) y) := by rw [HT.out, HF.out.2.1]
        have HS := Lib.hid hs
        have hm9 := HF.out.2.2 (ls.take q)
        clear hs HT hyI
        generalize letL (8 * p) y = e at *
        generalize F (ls.take q) = m at *
        obtain ⟨to_, tr, tv⟩ := t
        obtain ⟨yo, yr, yv⟩ := y
        simp only at c0 c1' c2
        have HB9 := Lib.hid (HM.out.trans ((belowA wr (.cells #[.int .u32 (to_ : Int), .int .u64 (tr : Int), .int .i64 tv] 30)).mono HM.out.size))
        have g1 : (q : Int) < (n : Int) := by omega
        clear hbA hql HM
        by_cases hme : m ≤ e
        · have k4 : (m : Int) ≤ (e : Int) := by omega
          have HE : Hid (F (ls.take (q + 1)) = m) := Lib.hid (by rw [HS.out]; omega)
          clear hme
          go_wp2_with fail
          ((with_reducible refine (HC.out _).mono ?_); rintro e1 W2 ⟨rfl, b2⟩)
          have HB2 := Lib.hid (HB9.out.trans (b2.mono HB9.out.size))
          clear b2 c0 c1' c2
          go_wp2_with fail
          ((with_reducible refine (HC2.out _).mono ?_); rintro e1 W3 ⟨rfl, b3⟩)
          have HB3 := Lib.hid (HB2.out.trans (b3.mono HB2.out.size))
          clear b3
          go_wp2_with fail
          go_roundw
          case rel => exact ⟨q + 1, by omega, by go_num, by rw [HE.out] <;> rfl, HB3⟩
          case measure => simp [intOf]; omega
        · have k4 : ¬ (m : Int) ≤ (e : Int) := by omega
          have HE : Hid (F (ls.take (q + 1)) = e) := Lib.hid (by rw [HS.out]; omega)
          clear hme
          go_wp2_with fail
          ((with_reducible refine (HC.out _).mono ?_); rintro e1 W2 ⟨rfl, b2⟩)
          have HB2 := Lib.hid (HB9.out.trans (b2.mono HB9.out.size))
          clear b2 c0 c1' c2
          go_wp2_with fail
          ((with_reducible refine (HC2.out _).mono ?_); rintro e1 W3 ⟨rfl, b3⟩)
          have HB3 := Lib.hid (HB2.out.trans (b3.mono HB2.out.size))
          clear b3
          go_wp2_with fail
          go_roundw
          case rel => exact ⟨q + 1, by omega, by go_num, by rw [HE.out] <;> rfl, HB3⟩
          case measure => simp [intOf]; omega
      · have hqn : q = n := by omega
        have HE : Hid (ls.take q = ls) := Lib.hid (List.take_of_length_le (by rw [HLS.out]; unfold heldR; rw [List.length_map, HL.out]; omega))
        have z1 : ¬ (q : Int) < (n : Int) := by omega
        rw [HE.out]
        clear hlt
        generalize F ls = m at *
        go_wp2_with fail
        go_ret
        exact ⟨rfl, HM.out⟩
  · have w1 : ¬ (p : Int) ≤ 4294967296 := by omega
    have w2 : (4294967296 : Int) < (p : Int) := by omega
    go_enter Try.func13, Try.ntmps13
    go_wp2_with fail
    go_loopw [5, 10] (fun v i wr => ∃ q : Nat, q ≤ n ∧ i = .int .i64 (q : Int) ∧ v = .int .u64 ((F (ls.take q) : Nat) : Int) ∧ Hid (Below w.heap.size w wr)) (fun _ i _ => n - (intOf i).toNat)
    case atStart => exact ⟨0, by omega, rfl, by rw [show ls.take 0 = [] from rfl, HF.out.1]; rfl, Lib.hid (Below.refl _ _)⟩
    case round =>
      obtain ⟨q, hq, rfl, rfl, HM⟩ := hrel
      by_cases hlt : q < n
      · have hql : q < l.length := by rw [HL.out]; exact hlt
        obtain ⟨bA, off, rfl, hbA, c0, c1', c2⟩ := (HR.out.below HM.out).at (q := q) hql
        have HT : Hid (ls.take (q + 1) = ls.take q ++ [holdT l[q]]) := Lib.hid (by rw [HLS.out]; exact held_take hql)
        have hti := HR.out.2.1 l[q] (List.getElem_mem hql)
        generalize l[q] = t at c0 c1' c2 HT hti
        have HC := Lib.hid (bd_held t hti)
        have hyI := holdT_in hti
        obtain ⟨y, hy⟩ : ∃ y, y = holdT t := ⟨_, rfl⟩
        rw [← hy] at HC HT hyI
        clear hy hti
        have HC2 := Lib.hid (show ∀ W, Calls Try.prog 23 #[y.val, .int .u64 (4294967296 : Int)] W (AnsB (.int .u64 ((letL (8 * 4294967296) y : Nat) : Int)) W) from bd_lets y hyI 4294967296 (by omega))
        have hs : F (ls.take (q + 1)) = min (F (ls.take q)) (letL (8 * 4294967296) y) := by rw [HT.out, HF.out.2.1]
        have HS := Lib.hid hs
        have hm9 := HF.out.2.2 (ls.take q)
        clear hs HT hyI
        generalize letL (8 * 4294967296) y = e at *
        generalize F (ls.take q) = m at *
        obtain ⟨to_, tr, tv⟩ := t
        obtain ⟨yo, yr, yv⟩ := y
        simp only at c0 c1' c2
        have HB9 := Lib.hid (HM.out.trans ((belowA wr (.cells #[.int .u32 (to_ : Int), .int .u64 (tr : Int), .int .i64 tv] 30)).mono HM.out.size))
        have g1 : (q : Int) < (n : Int) := by omega
        clear hbA hql HM
        by_cases hme : m ≤ e
        · have k4 : (m : Int) ≤ (e : Int) := by omega
          have HE : Hid (F (ls.take (q + 1)) = m) := Lib.hid (by rw [HS.out]; omega)
          clear hme
          go_wp2_with fail
          ((with_reducible refine (HC.out _).mono ?_); rintro e1 W2 ⟨rfl, b2⟩)
          have HB2 := Lib.hid (HB9.out.trans (b2.mono HB9.out.size))
          clear b2 c0 c1' c2
          go_wp2_with fail
          ((with_reducible refine (HC2.out _).mono ?_); rintro e1 W3 ⟨rfl, b3⟩)
          have HB3 := Lib.hid (HB2.out.trans (b3.mono HB2.out.size))
          clear b3
          go_wp2_with fail
          go_roundw
          case rel => exact ⟨q + 1, by omega, by go_num, by rw [HE.out] <;> rfl, HB3⟩
          case measure => simp [intOf]; omega
        · have k4 : ¬ (m : Int) ≤ (e : Int) := by omega
          have HE : Hid (F (ls.take (q + 1)) = e) := Lib.hid (by rw [HS.out]; omega)
          clear hme
          go_wp2_with fail
          ((with_reducible refine (HC.out _).mono ?_); rintro e1 W2 ⟨rfl, b2⟩)
          have HB2 := Lib.hid (HB9.out.trans (b2.mono HB9.out.size))
          clear b2 c0 c1' c2
          go_wp2_with fail
          ((with_reducible refine (HC2.out _).mono ?_); rintro e1 W3 ⟨rfl, b3⟩)
          have HB3 := Lib.hid (HB2.out.trans (b3.mono HB2.out.size))
          clear b3
          go_wp2_with fail
          go_roundw
          case rel => exact ⟨q + 1, by omega, by go_num, by rw [HE.out] <;> rfl, HB3⟩
          case measure => simp [intOf]; omega
      · have hqn : q = n := by omega
        have HE : Hid (ls.take q = ls) := Lib.hid (List.take_of_length_le (by rw [HLS.out]; unfold heldR; rw [List.length_map, HL.out]; omega))
        have z1 : ¬ (q : Int) < (n : Int) := by omega
        rw [HE.out]
        clear hlt
        generalize F ls = m at *
        go_wp2_with fail
        go_ret
        exact ⟨rfl, HM.out⟩
/-- What bounds, by its owner. -/
def OwnsOut (l : List Tup) (o : Nat) (w : World) (e : Ending) (w' : World) : Prop := ∃ R, BSet (heldR l) R ∧ e = .returned (.bool (R.any fun t => t.o == o)) ∧ Below w.heap.size w w'
theorem bset_in {l : List Tup} {R : List Ln} (h : ∀ t ∈ l, t.In) (hb : BSet (heldR l) R) : ∀ a ∈ R, a.In := fun a ha => heldR_in h a (bset_sub hb a ha)
set_option maxHeartbeats 4000000 in
theorem bd_owns {A : Option Addr} {n c : Nat} {l : List Tup} {w : World} (h : RT w w.heap.size A n c l) (hn : n ≤ 100000) {o : Nat} (ho : o < 4294967296) :
    Calls Try.prog 19 #[.slice A n c, .int .u32 (o : Int)] w (OwnsOut l o w) := by
  have HC := Lib.hid (bd_set h hn)
  have HLI := Lib.hid h.2.1
  have HLL : Hid ((heldR l).length ≤ 100000) := Lib.hid (by unfold heldR; rw [List.length_map, h.1]; exact hn)
  clear h
  go_enter Try.func19, Try.ntmps19
  go_wp2_with fail
  ((with_reducible refine HC.out.mono ?_); rintro e W1 ⟨v1, R, rfl, hbs, o1, b1⟩)
  have HBS := Lib.hid hbs
  have HRI := Lib.hid (bset_in HLI.out hbs)
  have HRL : Hid (R.length ≤ 100000) := Lib.hid (Nat.le_trans (bset_len hbs) HLL.out)
  obtain ⟨A1, c1, rfl, r1, _⟩ := o1.rt (unR_in HRI.out)
  obtain ⟨m, hm⟩ : ∃ m, m = (R.map unT).length := ⟨_, rfl⟩
  rw [← hm] at r1 ⊢
  have HM : Hid (m = R.length) := Lib.hid (by rw [hm, List.length_map])
  have hm1 : m ≤ 100000 := by rw [HM.out]; exact HRL.out
  have HR := Lib.hid r1
  have HB1 := Lib.hid b1
  clear hbs o1 b1 HC r1 hm
  go_wp2_with fail
  go_loopw [10] (fun i wr => ∃ q : Nat, q ≤ m ∧ i = .int .i64 (q : Int) ∧ Hid (Below W1.heap.size W1 wr ∧ ∀ t ∈ R.take q, t.o ≠ o)) (fun i _ => m - (intOf i).toNat)
  case atStart => exact ⟨0, by omega, rfl, Lib.hid ⟨Below.refl _ _, fun t ht => by cases ht⟩⟩
  case round =>
    obtain ⟨q, hq, rfl, HQ⟩ := hrel
    by_cases hlt : q < m
    · have hql : q < R.length := by rw [← HM.out]; exact hlt
      obtain ⟨bA, off, rfl, hbA, c0, c1', c2⟩ := (HR.out.below HQ.out.1).at (q := q) (by simpa using hql)
      simp only [List.getElem_map] at c0 c1' c2
      have HT : Hid (R.take (q + 1) = R.take q ++ [R[q]] ∧ R[q] ∈ R) := Lib.hid ⟨List.take_succ_eq_append_getElem hql, List.getElem_mem hql⟩
      generalize R[q] = t at c0 c1' c2 HT
      obtain ⟨to_, tr, tv⟩ := t
      replace c0 : wr.cell? ⟨bA, off + q * 3, none⟩ = some (.int .u32 (to_ : Int)) := c0
      replace c1' : wr.cell? ⟨bA, off + q * 3 + 1, none⟩ = some (.int .u64 (tr : Int)) := c1'
      replace c2 : wr.cell? ⟨bA, off + q * 3 + 2, none⟩ = some (.int .i64 (tv : Int)) := c2
      have HB9 := Lib.hid (HQ.out.1.trans ((belowA wr (.cells #[.int .u32 (to_ : Int), .int .u64 (tr : Int), .int .i64 (tv : Int)] 30)).mono HQ.out.1.size))
      have g1 : (q : Int) < (m : Int) := by omega
      clear hbA hql
      by_cases he : to_ = o
      · have z1 : ((to_ : Int) == (o : Int)) = true := by rw [beq_iff_eq]; omega
        have HA : Hid ((R.any fun t => t.o == o) = true) := Lib.hid (by
          rw [List.any_eq_true]
          exact ⟨⟨to_, tr, tv⟩, HT.out.2, by simpa using he⟩)
        have HF := Lib.hid (HB1.out.trans (HB9.out.mono HB1.out.size))
        clear he
        go_wp2_with fail
        go_ret
        exact ⟨R, HBS.out, by rw [HA.out]; rfl, HF.out⟩
      · have z1 : ((to_ : Int) == (o : Int)) = false := by rw [beq_eq_false_iff_ne]; omega
        have HN : Hid (∀ t ∈ R.take (q + 1), t.o ≠ o) := Lib.hid (fun t ht => by
          rw [HT.out.1] at ht
          rcases List.mem_append.1 ht with ht | ht
          · exact HQ.out.2 t ht
          · rw [List.mem_singleton] at ht
            rw [ht]; exact he)
        clear he HQ
        go_wp2_with fail
        go_roundw
        case rel => exact ⟨q + 1, by omega, by go_num, Lib.hid ⟨HB9.out, HN.out⟩⟩
        case measure => simp [intOf]; omega
    · have hqn : q = m := by omega
      have z1 : ¬ (q : Int) < (m : Int) := by omega
      have HA : Hid ((R.any fun t => t.o == o) = false) := Lib.hid (by
        rw [List.any_eq_false]
        intro t ht
        have := HQ.out.2 t (by rw [List.take_of_length_le (by rw [hqn, HM.out]; exact Nat.le_refl _)]; exact ht)
        simpa using this)
      have HF := Lib.hid (HB1.out.trans (HQ.out.1.mono HB1.out.size))
      clear hlt HQ hqn
      go_wp2_with fail
      go_ret
      exact ⟨R, HBS.out, by rw [HA.out]; rfl, HF.out⟩
end Go.Proofs.Ytlbndhbfmjefeaa
