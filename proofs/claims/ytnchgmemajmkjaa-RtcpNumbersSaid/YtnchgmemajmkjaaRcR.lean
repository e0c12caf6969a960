/- Contracts: limelightref6.Right, Is. -/
import Derived.Test.YtnchgmemajmkjaaRcT
import Derived.Test.YtnchgmemajmkjaaRcE
namespace Go.Proofs.Ytnchgmemajmkjaa
open Go.RowKit
set_option linter.unusedVariables false
set_option linter.unusedSimpArgs false
set_option maxRecDepth 20000

theorem Rep.err_kind {r : Rep} (h : r.kind < 1 ∨ 6 < r.kind) : r.err = 12 := if_pos h
theorem Rep.err_in {r : Rep} (h : 1 ≤ r.kind ∧ r.kind ≤ 6) : r.err = if r.fits = false then 1 else if r.bare = false then 12 else 0 := if_neg (by omega)
/-- What Right answers behind the kind's own test. -/
def errOf (ok bare : Bool) : Int := if ok = false then 1 else if bare = false then 12 else 0
theorem Rep.err_of {r : Rep} (h : 1 ≤ r.kind ∧ r.kind ≤ 6) : r.err = errOf r.fits r.bare := Rep.err_in h
/-- A number of a Fir. -/
def numOk (n : Int) : Bool := decide (0 ≤ n) && decide (n ≤ 255)
theorem all_take {α : Type} (f : α → Bool) {l : List α} {q : Nat} (h : q < l.length) : (l.take (q + 1)).all f = ((l.take q).all f && f l[q]) := by
  rw [List.take_add_one, List.getElem?_eq_getElem h]
  rw [List.all_append]
  simp
theorem blk10 {w : World} {g : Nat} {t : TypeId} {a0 a1 a2 a3 a4 a5 a6 a7 a8 a9 : Value} (h : Blk w g t #[a0, a1, a2, a3, a4, a5, a6, a7, a8, a9]) : w.cell? ⟨g, 0, none⟩ = some a0 ∧ w.cell? ⟨g, 1, none⟩ = some a1 ∧ w.cell? ⟨g, 2, none⟩ = some a2 ∧ w.cell? ⟨g, 3, none⟩ = some a3 ∧ w.cell? ⟨g, 4, none⟩ = some a4 ∧ w.cell? ⟨g, 5, none⟩ = some a5 ∧ w.cell? ⟨g, 6, none⟩ = some a6 ∧ w.cell? ⟨g, 7, none⟩ = some a7 ∧ w.cell? ⟨g, 8, none⟩ = some a8 ∧ w.cell? ⟨g, 9, none⟩ = some a9 :=
  ⟨(h.cell 0).trans rfl, (h.cell 1).trans rfl, (h.cell 2).trans rfl, (h.cell 3).trans rfl, (h.cell 4).trans rfl, (h.cell 5).trans rfl, (h.cell 6).trans rfl, (h.cell 7).trans rfl, (h.cell 8).trans rfl, (h.cell 9).trans rfl⟩
set_option maxHeartbeats 4000000 in
theorem right_1 (x : Rv) (w : World) (hx : IsR w w.heap.size x) (hk : x.r.kind = 1) : Calls Try.prog 32 #[x.val] w (AnsW (.int .i64 x.r.err) w) := by
  have her := Rep.err_of (r := x.r) (by omega)
  have hem := fun W => ref6_empty x W (by omega)
  have hfit : x.r.fits = (tupsOk x.r.tups) := by unfold Rep.fits; rw [if_pos (by omega)]
  rw [her, hfit]
  clear her hfit
  generalize x.r.bare = bare at hem
  obtain ⟨⟨kind, src, about, tups, abouts, nums, rate, ty, count, body⟩, At, ct, Aa, ca, An, cn, Ab, cb⟩ := x
  obtain ⟨t1, t2, t3, t4, kinds⟩ := hx
  obtain ⟨h1, h2, h3, h4, h5, h6, h7, h8, h9, h10⟩ := kinds
  simp only at hk h1 h2 h3 h4 h5 h6 h7 h8 h9 h10 t1 t2 t3 t4
  subst hk
  have hb : Below w.heap.size w (w.alloc (.cells #[.int .i64 1, .int .u32 (src : Int), .int .u32 (about : Int), .slice At tups.length ct, .slice Aa abouts.length ca, .slice An nums.length cn, .int .u64 (rate : Int), .int .i64 ty, .int .i64 count, .slice Ab body.length cb] 33)) := (Below.refl _ w).alloc (Nat.le_refl _) _
  simp only [Rv.val, Rv.cells] at hem ⊢
  have htu := fun W h => ref6_tuples At tups.length ct tups W h h7
  generalize tupsOk tups = ok at htu
  have t1 := t1.on hb
  clear t2 t3 t4 h1 h2 h3 h4 h5 h6 h7 h8 h9 h10
  go_enter Try.func32, Try.ntmps32
  go_wp2_with fail
  ((with_reducible refine (htu _ t1).mono ?_); rintro e w1 ⟨rfl, b1⟩)
  obtain ⟨y0, y1, y2, y3, y4, y5, y6, y7, y8, y9⟩ := blk10 ((Blk.new w 33 #[.int .i64 1, .int .u32 (src : Int), .int .u32 (about : Int), .slice At tups.length ct, .slice Aa abouts.length ca, .slice An nums.length cn, .int .u64 (rate : Int), .int .i64 ty, .int .i64 count, .slice Ab body.length cb]).below b1 (by simp))
  have b1 := hb.trans (b1.mono hb.size)
  clear htu hb t1
  cases ok
  · clear y0 y1 y2 y3 y4 y5 y6 y7 y8 y9
    go_wp2_with fail
    go_ret
    exact ⟨rfl, b1⟩
  · skip
    go_wp2_with fail
    ((with_reducible refine (hem _).mono ?_); rintro e we ⟨rfl, be⟩)
    have be := b1.trans (be.mono b1.size)
    clear hem
    cases bare
    · go_wp2_with fail
      go_ret
      exact ⟨rfl, be⟩
    · go_wp2_with fail
      go_ret
      exact ⟨rfl, be⟩
set_option maxHeartbeats 4000000 in
theorem right_2 (x : Rv) (w : World) (hx : IsR w w.heap.size x) (hk : x.r.kind = 2) : Calls Try.prog 32 #[x.val] w (AnsW (.int .i64 x.r.err) w) := by
  have her := Rep.err_of (r := x.r) (by omega)
  have hem := fun W => ref6_empty x W (by omega)
  have hfit : x.r.fits = (tupsOk x.r.tups) := by unfold Rep.fits; rw [if_pos (by omega)]
  rw [her, hfit]
  clear her hfit
  generalize x.r.bare = bare at hem
  obtain ⟨⟨kind, src, about, tups, abouts, nums, rate, ty, count, body⟩, At, ct, Aa, ca, An, cn, Ab, cb⟩ := x
  obtain ⟨t1, t2, t3, t4, kinds⟩ := hx
  obtain ⟨h1, h2, h3, h4, h5, h6, h7, h8, h9, h10⟩ := kinds
  simp only at hk h1 h2 h3 h4 h5 h6 h7 h8 h9 h10 t1 t2 t3 t4
  subst hk
  have hb : Below w.heap.size w (w.alloc (.cells #[.int .i64 2, .int .u32 (src : Int), .int .u32 (about : Int), .slice At tups.length ct, .slice Aa abouts.length ca, .slice An nums.length cn, .int .u64 (rate : Int), .int .i64 ty, .int .i64 count, .slice Ab body.length cb] 33)) := (Below.refl _ w).alloc (Nat.le_refl _) _
  simp only [Rv.val, Rv.cells] at hem ⊢
  have htu := fun W h => ref6_tuples At tups.length ct tups W h h7
  generalize tupsOk tups = ok at htu
  have t1 := t1.on hb
  clear t2 t3 t4 h1 h2 h3 h4 h5 h6 h7 h8 h9 h10
  go_enter Try.func32, Try.ntmps32
  go_wp2_with fail
  ((with_reducible refine (htu _ t1).mono ?_); rintro e w1 ⟨rfl, b1⟩)
  obtain ⟨y0, y1, y2, y3, y4, y5, y6, y7, y8, y9⟩ := blk10 ((Blk.new w 33 #[.int .i64 2, .int .u32 (src : Int), .int .u32 (about : Int), .slice At tups.length ct, .slice Aa abouts.length ca, .slice An nums.length cn, .int .u64 (rate : Int), .int .i64 ty, .int .i64 count, .slice Ab body.length cb]).below b1 (by simp))
  have b1 := hb.trans (b1.mono hb.size)
  clear htu hb t1
  cases ok
  · clear y0 y1 y2 y3 y4 y5 y6 y7 y8 y9
    go_wp2_with fail
    go_ret
    exact ⟨rfl, b1⟩
  · skip
    go_wp2_with fail
    ((with_reducible refine (hem _).mono ?_); rintro e we ⟨rfl, be⟩)
    have be := b1.trans (be.mono b1.size)
    clear hem
    cases bare
    · go_wp2_with fail
      go_ret
      exact ⟨rfl, be⟩
    · go_wp2_with fail
      go_ret
      exact ⟨rfl, be⟩
set_option maxHeartbeats 4000000 in
theorem right_3 (x : Rv) (w : World) (hx : IsR w w.heap.size x) (hk : x.r.kind = 3) : Calls Try.prog 32 #[x.val] w (AnsW (.int .i64 x.r.err) w) := by
  have her := Rep.err_of (r := x.r) (by omega)
  have hem := fun W => ref6_empty x W (by omega)
  have hfit : x.r.fits = (true) := by unfold Rep.fits; rw [if_neg (by omega), if_neg (by omega), if_neg (by omega), if_neg (by omega)]
  rw [her, hfit]
  clear her hfit
  generalize x.r.bare = bare at hem
  obtain ⟨⟨kind, src, about, tups, abouts, nums, rate, ty, count, body⟩, At, ct, Aa, ca, An, cn, Ab, cb⟩ := x
  obtain ⟨t1, t2, t3, t4, kinds⟩ := hx
  obtain ⟨h1, h2, h3, h4, h5, h6, h7, h8, h9, h10⟩ := kinds
  simp only at hk h1 h2 h3 h4 h5 h6 h7 h8 h9 h10 t1 t2 t3 t4
  subst hk
  have hb : Below w.heap.size w (w.alloc (.cells #[.int .i64 3, .int .u32 (src : Int), .int .u32 (about : Int), .slice At tups.length ct, .slice Aa abouts.length ca, .slice An nums.length cn, .int .u64 (rate : Int), .int .i64 ty, .int .i64 count, .slice Ab body.length cb] 33)) := (Below.refl _ w).alloc (Nat.le_refl _) _
  simp only [Rv.val, Rv.cells] at hem ⊢
  clear t1 t2 t3 t4 h1 h2 h3 h4 h5 h6 h7 h8 h9 h10
  go_enter Try.func32, Try.ntmps32
  go_wp2_with fail
  ((with_reducible refine (hem _).mono ?_); rintro e we ⟨rfl, be⟩)
  have be := hb.trans (be.mono hb.size)
  clear hem
  cases bare
  · go_wp2_with fail
    go_ret
    exact ⟨rfl, be⟩
  · go_wp2_with fail
    go_ret
    exact ⟨rfl, be⟩
set_option maxHeartbeats 4000000 in
theorem right_4 (x : Rv) (w : World) (hx : IsR w w.heap.size x) (hk : x.r.kind = 4) : Calls Try.prog 32 #[x.val] w (AnsW (.int .i64 x.r.err) w) := by
  have her := Rep.err_of (r := x.r) (by omega)
  have hem := fun W => ref6_empty x W (by omega)
  have hfit : x.r.fits = ((decide (x.r.abouts.length = x.r.nums.length) && (decide (1 ≤ x.r.abouts.length) && decide (x.r.abouts.length ≤ 16))) && x.r.nums.all numOk) := by unfold Rep.fits; rw [if_neg (by omega), if_pos hk]; simp only [Bool.and_assoc]; rfl
  rw [her, hfit]
  clear her hfit
  generalize x.r.bare = bare at hem
  obtain ⟨⟨kind, src, about, tups, abouts, nums, rate, ty, count, body⟩, At, ct, Aa, ca, An, cn, Ab, cb⟩ := x
  obtain ⟨t1, t2, t3, t4, kinds⟩ := hx
  obtain ⟨h1, h2, h3, h4, h5, h6, h7, h8, h9, h10⟩ := kinds
  simp only at hk h1 h2 h3 h4 h5 h6 h7 h8 h9 h10 t1 t2 t3 t4
  subst hk
  have hb : Below w.heap.size w (w.alloc (.cells #[.int .i64 4, .int .u32 (src : Int), .int .u32 (about : Int), .slice At tups.length ct, .slice Aa abouts.length ca, .slice An nums.length cn, .int .u64 (rate : Int), .int .i64 ty, .int .i64 count, .slice Ab body.length cb] 33)) := (Below.refl _ w).alloc (Nat.le_refl _) _
  simp only [Rv.val, Rv.cells] at hem ⊢
  have hnl := t3.1
  clear hnl t1 t2 t4 h1 h2 h3 h4 h5 h6 h7 h8 h10
  by_cases l1 : abouts.length = nums.length
  rotate_left
  · have e1 : decide (abouts.length = nums.length) = false := by simpa using l1
    rw [e1]
    clear e1
    have l2 : ((abouts.length : Int) == (nums.length : Int)) = false := by simp; omega
    clear l1
    simp only [Bool.false_and]
    skip
    go_enter Try.func32, Try.ntmps32
    go_wp2_with fail
    go_loop [3, 5, 46] (fun okv _ iv => ∃ q : Nat, q ≤ nums.length ∧ iv = .int .i64 (q : Int) ∧ okv = .bool (false)) (fun _ _ iv => nums.length - (intOf iv).toNat)
    case atStart => exact ⟨0, by omega, rfl, by simp⟩
    case round =>
      obtain ⟨q, hq, rfl, rfl⟩ := hrel
      by_cases hlt : q < nums.length
      · have g3 : decide ((q : Int) < (nums.length : Int)) = true := by simp; omega
        obtain ⟨b, off, rfl, hbl, c0⟩ := t3.at hlt
        have htk := Lib.hid (all_take numOk hlt)
        have c1 := (hb.cell (p := ⟨b, off + q, none⟩) hbl).trans c0
        have hnk : numOk nums[q] = (decide (0 ≤ nums[q]) && decide (nums[q] ≤ 255)) := rfl
        clear c0 t3
        generalize nums[q] = z at c1 htk hnk
        have hnk := Lib.hid hnk
        go_wp2_with fail
        go_round
        case rel => exact ⟨q + 1, by omega, by go_num, rfl⟩
        case measure => simp [intOf]; omega
      · have g3 : ¬ (q : Int) < (nums.length : Int) := by omega
        clear t3
        go_wp2_with fail
        go_ret
        exact ⟨rfl, hb⟩
  rw [l1] at hb hem ⊢
  have e1 : decide (nums.length = nums.length) = true := by simp
  rw [e1, Bool.true_and]
  clear e1 l1
  by_cases l2 : 1 ≤ nums.length
  rotate_left
  · have e1 : decide (1 ≤ nums.length) = false := by simpa using l2
    rw [e1]
    have l3 : decide (1 ≤ (nums.length : Int)) = false := by simp only [decide_eq_false_iff_not]; omega
    clear l2
    simp only [Bool.false_and]
    skip
    go_enter Try.func32, Try.ntmps32
    go_wp2_with fail
    go_loop [3, 5, 46] (fun okv _ iv => ∃ q : Nat, q ≤ nums.length ∧ iv = .int .i64 (q : Int) ∧ okv = .bool (false)) (fun _ _ iv => nums.length - (intOf iv).toNat)
    case atStart => exact ⟨0, by omega, rfl, by simp⟩
    case round =>
      obtain ⟨q, hq, rfl, rfl⟩ := hrel
      by_cases hlt : q < nums.length
      · have g3 : decide ((q : Int) < (nums.length : Int)) = true := by simp; omega
        obtain ⟨b, off, rfl, hbl, c0⟩ := t3.at hlt
        have htk := Lib.hid (all_take numOk hlt)
        have c1 := (hb.cell (p := ⟨b, off + q, none⟩) hbl).trans c0
        have hnk : numOk nums[q] = (decide (0 ≤ nums[q]) && decide (nums[q] ≤ 255)) := rfl
        clear c0 t3
        generalize nums[q] = z at c1 htk hnk
        have hnk := Lib.hid hnk
        go_wp2_with fail
        go_round
        case rel => exact ⟨q + 1, by omega, by go_num, rfl⟩
        case measure => simp [intOf]; omega
      · have g3 : ¬ (q : Int) < (nums.length : Int) := by omega
        clear t3
        go_wp2_with fail
        go_ret
        exact ⟨rfl, hb⟩
  have e1 : decide (1 ≤ nums.length) = true := by simpa using l2
  rw [e1, Bool.true_and]
  have l3 : decide (1 ≤ (nums.length : Int)) = true := by simp only [decide_eq_true_eq]; omega
  clear l2
  by_cases l4 : nums.length ≤ 16
  rotate_left
  · have e2 : decide (nums.length ≤ 16) = false := by simpa using l4
    rw [e2]
    have l5 : decide ((nums.length : Int) ≤ 16) = false := by simp only [decide_eq_false_iff_not]; omega
    clear l4
    simp only [Bool.false_and]
    skip
    go_enter Try.func32, Try.ntmps32
    go_wp2_with fail
    go_loop [3, 5, 46] (fun okv _ iv => ∃ q : Nat, q ≤ nums.length ∧ iv = .int .i64 (q : Int) ∧ okv = .bool (false)) (fun _ _ iv => nums.length - (intOf iv).toNat)
    case atStart => exact ⟨0, by omega, rfl, by simp⟩
    case round =>
      obtain ⟨q, hq, rfl, rfl⟩ := hrel
      by_cases hlt : q < nums.length
      · have g3 : decide ((q : Int) < (nums.length : Int)) = true := by simp; omega
        obtain ⟨b, off, rfl, hbl, c0⟩ := t3.at hlt
        have htk := Lib.hid (all_take numOk hlt)
        have c1 := (hb.cell (p := ⟨b, off + q, none⟩) hbl).trans c0
        have hnk : numOk nums[q] = (decide (0 ≤ nums[q]) && decide (nums[q] ≤ 255)) := rfl
        clear c0 t3
        generalize nums[q] = z at c1 htk hnk
        have hnk := Lib.hid hnk
        go_wp2_with fail
        go_round
        case rel => exact ⟨q + 1, by omega, by go_num, rfl⟩
        case measure => simp [intOf]; omega
      · have g3 : ¬ (q : Int) < (nums.length : Int) := by omega
        clear t3
        go_wp2_with fail
        go_ret
        exact ⟨rfl, hb⟩
  have e2 : decide (nums.length ≤ 16) = true := by simpa using l4
  rw [e2]
  have l5 : decide ((nums.length : Int) ≤ 16) = true := by simp only [decide_eq_true_eq]; omega
  clear l4
  simp only [Bool.true_and]
  go_enter Try.func32, Try.ntmps32
  go_wp2_with fail
  go_loop [3, 5, 46] (fun okv _ iv => ∃ q : Nat, q ≤ nums.length ∧ iv = .int .i64 (q : Int) ∧ okv = .bool ((nums.take q).all numOk)) (fun _ _ iv => nums.length - (intOf iv).toNat)
  case atStart => exact ⟨0, by omega, rfl, by simp⟩
  case round =>
    obtain ⟨q, hq, rfl, rfl⟩ := hrel
    by_cases hlt : q < nums.length
    · have g3 : decide ((q : Int) < (nums.length : Int)) = true := by simp; omega
      obtain ⟨b, off, rfl, hbl, c0⟩ := t3.at hlt
      have htk := Lib.hid (all_take numOk hlt)
      have c1 := (hb.cell (p := ⟨b, off + q, none⟩) hbl).trans c0
      have hnk : numOk nums[q] = (decide (0 ≤ nums[q]) && decide (nums[q] ≤ 255)) := rfl
      clear c0 t3
      generalize nums[q] = z at c1 htk hnk
      have hnk := Lib.hid hnk
      generalize (nums.take q).all numOk = B at htk ⊢
      cases B
      · go_wp2_with fail
        go_round
        case rel => exact ⟨q + 1, by omega, by go_num, by rw [htk.out]; rfl⟩
        case measure => simp [intOf]; omega
      by_cases z1 : 0 ≤ z
      · by_cases z2 : z ≤ 255
        · go_wp2_with fail
          go_round
          case rel => exact ⟨q + 1, by omega, by go_num, by rw [htk.out, hnk.out]; simp [z1, z2]⟩
          case measure => simp [intOf]; omega
        · have z3 : decide (z ≤ 255) = false := by simp only [decide_eq_false_iff_not]; exact z2
          go_wp2_with fail
          go_round
          case rel => exact ⟨q + 1, by omega, by go_num, by rw [htk.out, hnk.out]; simp [z2]⟩
          case measure => simp [intOf]; omega
      · have z3 : decide (0 ≤ z) = false := by simp only [decide_eq_false_iff_not]; exact z1
        go_wp2_with fail
        go_round
        case rel => exact ⟨q + 1, by omega, by go_num, by rw [htk.out, hnk.out]; simp [z1]⟩
        case measure => simp [intOf]; omega
    · have g3 : ¬ (q : Int) < (nums.length : Int) := by omega
      rw [List.take_of_length_le (by omega)]
      clear t3
      generalize hB : nums.all numOk = B
      have HB := Lib.hid hB
      clear hB
      cases B
      · skip
        go_wp2_with fail
        go_ret
        exact ⟨by rw [HB.out]; rfl, hb⟩
      · skip
        go_wp2_with fail
        ((with_reducible refine (hem _).mono ?_); rintro e we ⟨rfl, be⟩)
        have be := hb.trans (be.mono hb.size)
        clear hem
        cases bare
        · go_wp2_with fail
          go_ret
          exact ⟨by rw [HB.out]; rfl, be⟩
        · go_wp2_with fail
          go_ret
          exact ⟨by rw [HB.out]; rfl, be⟩
set_option maxHeartbeats 4000000 in
theorem right_5 (x : Rv) (w : World) (hx : IsR w w.heap.size x) (hk : x.r.kind = 5) : Calls Try.prog 32 #[x.val] w (AnsW (.int .i64 x.r.err) w) := by
  have her := Rep.err_of (r := x.r) (by omega)
  have hem := fun W => ref6_empty x W (by omega)
  have hfit : x.r.fits = (decide (x.r.abouts.length ≤ 16) && decide (dnN x.r.rate 18 = x.r.rate)) := by unfold Rep.fits; rw [if_neg (by omega), if_neg (by omega), if_pos hk]
  rw [her, hfit]
  clear her hfit
  generalize x.r.bare = bare at hem
  obtain ⟨⟨kind, src, about, tups, abouts, nums, rate, ty, count, body⟩, At, ct, Aa, ca, An, cn, Ab, cb⟩ := x
  obtain ⟨t1, t2, t3, t4, kinds⟩ := hx
  obtain ⟨h1, h2, h3, h4, h5, h6, h7, h8, h9, h10⟩ := kinds
  simp only at hk h1 h2 h3 h4 h5 h6 h7 h8 h9 h10 t1 t2 t3 t4
  subst hk
  have hb : Below w.heap.size w (w.alloc (.cells #[.int .i64 5, .int .u32 (src : Int), .int .u32 (about : Int), .slice At tups.length ct, .slice Aa abouts.length ca, .slice An nums.length cn, .int .u64 (rate : Int), .int .i64 ty, .int .i64 count, .slice Ab body.length cb] 33)) := (Below.refl _ w).alloc (Nat.le_refl _) _
  simp only [Rv.val, Rv.cells] at hem ⊢
  have hdn : ∀ W, Calls Try.prog 29 #[.int .u64 (rate : Int), .int .i64 18] W fun e w' => e = .returned (.int .u64 (dnR rate 18 : Int)) ∧ w' = W := fun W => (ref_down_s rate 18 W h4 (by omega)).mono fun _ _ h => ⟨h.1, h.2.symm⟩
  have e18 := dnR_in h4 (bits := 18) (by omega)
  rw [show dnN rate 18 = dnR rate 18 from e18.symm]
  generalize dnR rate 18 = D at hdn
  clear e18 t1 t2 t3 t4 h1 h2 h3 h5 h6 h7 h9 h10
  by_cases l4 : abouts.length ≤ 16
  rotate_left
  · have e2 : decide (abouts.length ≤ 16) = false := by simpa using l4
    rw [e2, Bool.false_and]
    have l5 : decide ((abouts.length : Int) ≤ 16) = false := by simp only [decide_eq_false_iff_not]; omega
    clear l4 e2
    go_enter Try.func32, Try.ntmps32
    go_wp2_with fail
    go_quiet ((go_at_call 29; refine Calls.quiet_of_same (hdn _)))
    obtain ⟨y0, y1, y2, y3, y4, y5, y6, y7, y8, y9⟩ := blk10 ((Blk.new w 33 #[.int .i64 5, .int .u32 (src : Int), .int .u32 (about : Int), .slice At tups.length ct, .slice Aa abouts.length ca, .slice An nums.length cn, .int .u64 (rate : Int), .int .i64 ty, .int .i64 count, .slice Ab body.length cb]).drewN nq)
    have b1 := hb.trans ((below_drewN _ _ nq).mono hb.size)
    clear hb hdn
    generalize World.drewN _ nq = W at b1 y0 y1 y2 y3 y4 y5 y6 y7 y8 y9 ⊢
    go_wp2_with fail
    go_ret
    exact ⟨rfl, b1⟩
  have e2 : decide (abouts.length ≤ 16) = true := by simpa using l4
  rw [e2, Bool.true_and]
  have l5 : decide ((abouts.length : Int) ≤ 16) = true := by simp only [decide_eq_true_eq]; omega
  clear l4 e2
  by_cases l6 : D = rate
  · subst l6
    have e3 : decide (D = D) = true := by simp
    rw [e3]
    clear e3
    go_enter Try.func32, Try.ntmps32
    go_wp2_with fail
    go_quiet ((go_at_call 29; refine Calls.quiet_of_same (hdn _)))
    obtain ⟨y0, y1, y2, y3, y4, y5, y6, y7, y8, y9⟩ := blk10 ((Blk.new w 33 #[.int .i64 5, .int .u32 (src : Int), .int .u32 (about : Int), .slice At tups.length ct, .slice Aa abouts.length ca, .slice An nums.length cn, .int .u64 (D : Int), .int .i64 ty, .int .i64 count, .slice Ab body.length cb]).drewN nq)
    have b1 := hb.trans ((below_drewN _ _ nq).mono hb.size)
    clear hb hdn
    generalize World.drewN _ nq = W at b1 y0 y1 y2 y3 y4 y5 y6 y7 y8 y9 ⊢
    go_wp2_with fail
    ((with_reducible refine (hem _).mono ?_); rintro e we ⟨rfl, be⟩)
    have be := b1.trans (be.mono b1.size)
    clear hem
    cases bare
    · go_wp2_with fail
      go_ret
      exact ⟨rfl, be⟩
    · go_wp2_with fail
      go_ret
      exact ⟨rfl, be⟩
  · have e3 : decide (D = rate) = false := by simpa using l6
    rw [e3]
    have l7 : ((D : Int) == (rate : Int)) = false := by simp; omega
    clear l6 e3
    go_enter Try.func32, Try.ntmps32
    go_wp2_with fail
    go_quiet ((go_at_call 29; refine Calls.quiet_of_same (hdn _)))
    obtain ⟨y0, y1, y2, y3, y4, y5, y6, y7, y8, y9⟩ := blk10 ((Blk.new w 33 #[.int .i64 5, .int .u32 (src : Int), .int .u32 (about : Int), .slice At tups.length ct, .slice Aa abouts.length ca, .slice An nums.length cn, .int .u64 (rate : Int), .int .i64 ty, .int .i64 count, .slice Ab body.length cb]).drewN nq)
    have b1 := hb.trans ((below_drewN _ _ nq).mono hb.size)
    clear hb hdn
    generalize World.drewN _ nq = W at b1 y0 y1 y2 y3 y4 y5 y6 y7 y8 y9 ⊢
    go_wp2_with fail
    go_ret
    exact ⟨rfl, b1⟩
set_option maxHeartbeats 4000000 in
theorem right_6 (x : Rv) (w : World) (hx : IsR w w.heap.size x) (hk : x.r.kind = 6) : Calls Try.prog 32 #[x.val] w (AnsW (.int .i64 x.r.err) w) := by
  have her := Rep.err_of (r := x.r) (by omega)
  have hem := fun W => ref6_empty x W (by omega)
  have hfit : x.r.fits = (decide (192 ≤ x.r.ty) && (decide (x.r.ty ≤ 223) && (decide (0 ≤ x.r.count) && (decide (x.r.count ≤ 31) && (decide (x.r.body.length % 4 = 0) && (decide (x.r.body.length ≤ 262140) && !oursTC x.r.ty x.r.count)))))) := by unfold Rep.fits; rw [if_neg (by omega), if_neg (by omega), if_neg (by omega), if_pos hk]
  rw [her, hfit]
  clear her hfit
  generalize x.r.bare = bare at hem
  obtain ⟨⟨kind, src, about, tups, abouts, nums, rate, ty, count, body⟩, At, ct, Aa, ca, An, cn, Ab, cb⟩ := x
  obtain ⟨t1, t2, t3, t4, kinds⟩ := hx
  obtain ⟨h1, h2, h3, h4, h5, h6, h7, h8, h9, h10⟩ := kinds
  simp only at hk h1 h2 h3 h4 h5 h6 h7 h8 h9 h10 t1 t2 t3 t4
  subst hk
  have hb : Below w.heap.size w (w.alloc (.cells #[.int .i64 6, .int .u32 (src : Int), .int .u32 (about : Int), .slice At tups.length ct, .slice Aa abouts.length ca, .slice An nums.length cn, .int .u64 (rate : Int), .int .i64 ty, .int .i64 count, .slice Ab body.length cb] 33)) := (Below.refl _ w).alloc (Nat.le_refl _) _
  simp only [Rv.val, Rv.cells] at hem ⊢
  have hkn := fun W => ref6_known ty count W
  generalize oursTC ty count = O at hkn
  clear t1 t2 t3 t4 h1 h2 h3 h4 h7 h8 h9
  by_cases l0 : 192 ≤ ty
  rotate_left
  · have e2 : decide (192 ≤ ty) = false := by simpa using l0
    rw [e2, Bool.false_and]
    have m : decide (192 ≤ ty) = false := by simp only [decide_eq_false_iff_not]; omega
    clear l0 e2
    go_enter Try.func32, Try.ntmps32
    go_wp2_with fail
    go_ret
    exact ⟨rfl, hb⟩
  have e2 : decide (192 ≤ ty) = true := by simpa using l0
  rw [e2, Bool.true_and]
  clear e2
  have m0 : decide (192 ≤ ty) = true := by simp only [decide_eq_true_eq]; omega
  clear l0
  by_cases l1 : ty ≤ 223
  rotate_left
  · have e2 : decide (ty ≤ 223) = false := by simpa using l1
    rw [e2, Bool.false_and]
    have m : decide (ty ≤ 223) = false := by simp only [decide_eq_false_iff_not]; omega
    clear l1 e2
    go_enter Try.func32, Try.ntmps32
    go_wp2_with fail
    go_ret
    exact ⟨rfl, hb⟩
  have e2 : decide (ty ≤ 223) = true := by simpa using l1
  rw [e2, Bool.true_and]
  clear e2
  have m1 : decide (ty ≤ 223) = true := by simp only [decide_eq_true_eq]; omega
  clear l1
  by_cases l2 : 0 ≤ count
  rotate_left
  · have e2 : decide (0 ≤ count) = false := by simpa using l2
    rw [e2, Bool.false_and]
    have m : decide (0 ≤ count) = false := by simp only [decide_eq_false_iff_not]; omega
    clear l2 e2
    go_enter Try.func32, Try.ntmps32
    go_wp2_with fail
    go_ret
    exact ⟨rfl, hb⟩
  have e2 : decide (0 ≤ count) = true := by simpa using l2
  rw [e2, Bool.true_and]
  clear e2
  have m2 : decide (0 ≤ count) = true := by simp only [decide_eq_true_eq]; omega
  clear l2
  by_cases l3 : count ≤ 31
  rotate_left
  · have e2 : decide (count ≤ 31) = false := by simpa using l3
    rw [e2, Bool.false_and]
    have m : decide (count ≤ 31) = false := by simp only [decide_eq_false_iff_not]; omega
    clear l3 e2
    go_enter Try.func32, Try.ntmps32
    go_wp2_with fail
    go_ret
    exact ⟨rfl, hb⟩
  have e2 : decide (count ≤ 31) = true := by simpa using l3
  rw [e2, Bool.true_and]
  clear e2
  have m3 : decide (count ≤ 31) = true := by simp only [decide_eq_true_eq]; omega
  clear l3
  by_cases l4 : body.length % 4 = 0
  rotate_left
  · have e2 : decide (body.length % 4 = 0) = false := by simpa using l4
    rw [e2, Bool.false_and]
    have m : ((body.length : Int) % 4 == 0) = false := by simp; omega
    clear l4 e2
    go_enter Try.func32, Try.ntmps32
    go_wp2_with fail
    go_ret
    exact ⟨rfl, hb⟩
  have e2 : decide (body.length % 4 = 0) = true := by simpa using l4
  rw [e2, Bool.true_and]
  clear e2
  have m4 : ((body.length : Int) % 4 == 0) = true := by simp; omega
  clear l4
  by_cases l5 : body.length ≤ 262140
  rotate_left
  · have e2 : decide (body.length ≤ 262140) = false := by simpa using l5
    rw [e2, Bool.false_and]
    have m : decide ((body.length : Int) ≤ 262140) = false := by simp only [decide_eq_false_iff_not]; omega
    clear l5 e2
    go_enter Try.func32, Try.ntmps32
    go_wp2_with fail
    go_ret
    exact ⟨rfl, hb⟩
  have e2 : decide (body.length ≤ 262140) = true := by simpa using l5
  rw [e2, Bool.true_and]
  clear e2
  have m5 : decide ((body.length : Int) ≤ 262140) = true := by simp only [decide_eq_true_eq]; omega
  clear l5
  cases O
  · go_enter Try.func32, Try.ntmps32
    go_wp2_with fail
    ((with_reducible refine (hkn _).mono ?_); rintro e w1 ⟨rfl, rfl⟩)
    clear hkn
    go_wp2_with fail
    ((with_reducible refine (hem _).mono ?_); rintro e we ⟨rfl, be⟩)
    have be := hb.trans (be.mono hb.size)
    clear hem
    cases bare
    · go_wp2_with fail
      go_ret
      exact ⟨rfl, be⟩
    · go_wp2_with fail
      go_ret
      exact ⟨rfl, be⟩
  · go_enter Try.func32, Try.ntmps32
    go_wp2_with fail
    ((with_reducible refine (hkn _).mono ?_); rintro e w1 ⟨rfl, rfl⟩)
    clear hkn
    go_wp2_with fail
    go_ret
    exact ⟨rfl, hb⟩
set_option maxHeartbeats 4000000 in
theorem right_0 (x : Rv) (w : World) (hk : x.r.kind < 1 ∨ 6 < x.r.kind) : Calls Try.prog 32 #[x.val] w (AnsW (.int .i64 x.r.err) w) := by
  rw [Rep.err_kind hk]
  obtain ⟨⟨kind, src, about, tups, abouts, nums, rate, ty, count, body⟩, At, ct, Aa, ca, An, cn, Ab, cb⟩ := x
  simp only at hk
  have hb : Below w.heap.size w (w.alloc (.cells #[.int .i64 kind, .int .u32 (src : Int), .int .u32 (about : Int), .slice At tups.length ct, .slice Aa abouts.length ca, .slice An nums.length cn, .int .u64 (rate : Int), .int .i64 ty, .int .i64 count, .slice Ab body.length cb] 33)) := (Below.refl _ w).alloc (Nat.le_refl _) _
  simp only [Rv.val, Rv.cells]
  by_cases h1 : kind < 1
  · clear hk
    go_enter Try.func32, Try.ntmps32
    go_wp2_with fail
    go_ret
    exact ⟨rfl, hb⟩
  · have h2 : 6 < kind := by omega
    clear hk
    go_enter Try.func32, Try.ntmps32
    go_wp2_with fail
    go_ret
    exact ⟨rfl, hb⟩
theorem ref6_right (x : Rv) (w : World) (hx : IsR w w.heap.size x) : Calls Try.prog 32 #[x.val] w (AnsW (.int .i64 x.r.err) w) := by
  by_cases h0 : x.r.kind < 1 ∨ 6 < x.r.kind
  · exact right_0 x w h0
  by_cases h1 : x.r.kind = 1
  · exact right_1 x w hx h1
  by_cases h2 : x.r.kind = 2
  · exact right_2 x w hx h2
  by_cases h3 : x.r.kind = 3
  · exact right_3 x w hx h3
  by_cases h4 : x.r.kind = 4
  · exact right_4 x w hx h4
  by_cases h5 : x.r.kind = 5
  · exact right_5 x w hx h5
  exact right_6 x w hx (by omega)
end Go.Proofs.Ytnchgmemajmkjaa
