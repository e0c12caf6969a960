/- Contracts: limelightref6.Bytes. Contract: rtcp.Bytes. -/
import Derived.Test.YtnchgmemajmkjaaRcO
import Derived.Test.YtnchgmemajmkjaaPcF
import Derived.Test.YtnchgmemajmkjaaPcI
namespace Go.Proofs.Ytnchgmemajmkjaa
open Go.RowKit
set_option linter.unusedVariables false
set_option linter.unusedSimpArgs false
set_option maxRecDepth 20000

/-- What Bytes answers: the row, or a refusal. -/
def RbOut (w : World) (l : List Rep) (e : Ending) (w' : World) : Prop :=
  (repsErr l = 0 → ∃ v, e = .returned (.tuple #[v, .int .i64 0]) ∧ Own8 w' w.heap.size v (onesB l) ∧ Below w.heap.size w w') ∧
  (repsErr l ≠ 0 → e = .returned (.tuple #[.slice none 0 0, .int .i64 (repsErr l)]) ∧ Below w.heap.size w w')
theorem repsErr_nil : repsErr [] = 1 := rfl
theorem repsErr_bad {l : List Rep} {q : Nat} (hq : q < l.length) (h : ∀ r ∈ l.take q, r.err = 0) (he : l[q].err ≠ 0) : repsErr l = l[q].err := by
  unfold repsErr
  rw [if_neg (by omega)]
  have h1 : l = l.take q ++ l[q] :: l.drop (q + 1) := by rw [← List.drop_eq_getElem_cons hq, List.take_append_drop]
  have h2 : l.find? (fun r => decide (r.err ≠ 0)) = some l[q] := by
    generalize l[q] = x at h1 he
    rw [h1, List.find?_append]
    have h3 : (l.take q).find? (fun r => decide (r.err ≠ 0)) = none := by
      rw [List.find?_eq_none]
      intro y hy
      simp [h y hy]
    rw [h3]
    simp [he]
  rw [h2]
theorem repsErr_ok {l : List Rep} (hl : l.length ≠ 0) (h : ∀ r ∈ l, r.err = 0) : repsErr l = if 1500 < (onesB l).length then 3 else 0 := by
  unfold repsErr
  rw [if_neg hl]
  have h3 : l.find? (fun r => decide (r.err ≠ 0)) = none := by
    rw [List.find?_eq_none]
    intro y hy
    simp [h y hy]
  rw [h3]
theorem Rep.err_12 (r : Rep) : r.err = 0 ∨ r.err = 1 ∨ r.err = 12 := by
  unfold Rep.err
  split
  · omega
  · split
    · omega
    · split <;> omega
theorem ones_take {l : List Rep} {q : Nat} (h : q < l.length) : onesB (l.take q) ++ l[q].one = onesB (l.take (q + 1)) := by
  unfold onesB
  rw [List.take_add_one, List.flatMap_append, List.getElem?_eq_getElem h]
  simp
theorem ones_le {l : List Rep} (h : ∀ r ∈ l, r.err = 0) : (onesB l).length ≤ l.length * 262144 := by
  induction l with
  | nil => simp [onesB]
  | cons x r ih =>
    have h1 := Rep.one_len x
    have h2 := Rep.tail_le (h x (by simp))
    have h3 := ih (fun y hy => h y (by simp [hy]))
    unfold onesB at h3 ⊢
    rw [List.flatMap_cons, List.length_append, List.length_cons, Nat.add_mul]
    omega
set_option maxHeartbeats 2000000 in
theorem ref6_bytes (A : Option Addr) (n c : Nat) (L : List Rv) (w : World) (h : RR w w.heap.size A n c L) (hn : n ≤ 1000) :
    Calls Try.prog 13 #[.slice A n c] w (RbOut w (L.map Rv.r)) := by
  have hL := h.1
  by_cases h0 : n = 0
  · subst h0
    have : L = [] := List.length_eq_zero_iff.1 hL
    subst this
    clear h hL
    go_enter Try.func13, Try.ntmps13
    go_wp2_with fail
    go_ret2
    exact ⟨fun hh => by simp [repsErr_nil] at hh, fun _ => ⟨rfl, Below.refl _ _⟩⟩
  have g0 : ((n : Int) == 0) = false := by simp; omega
  have HL := Lib.hid hL
  have hrl : (L.map Rv.r).length = n := by simp [hL]
  have HRL := Lib.hid hrl
  clear hL hrl
  go_enter Try.func13, Try.ntmps13
  go_wp2_with fail
  go_loopw [6, 7, 15] (fun _ _ i wr => ∃ q : Nat, q ≤ n ∧ i = .int .i64 (q : Int) ∧ (∀ r ∈ (L.map Rv.r).take q, r.err = 0) ∧ Below w.heap.size w wr) (fun _ _ i _ => n - (intOf i).toNat)
  case atStart => exact ⟨0, by omega, rfl, by simp, Below.refl _ _⟩
  case round =>
    obtain ⟨q, hq, rfl, hok, hbr⟩ := hrel
    have HOK := Lib.hid hok
    clear hok
    by_cases hlt : q < n
    · have g3 : decide ((q : Int) < (n : Int)) = true := by simp; omega
      have hql : q < L.length := by rw [HL.out]; exact hlt
      have hqr : q < (L.map Rv.r).length := by rw [HRL.out]; exact hlt
      obtain ⟨b, off, rfl, hbl, k0, k1, k2, k3, k4, k5, k6, k7, k8, k9⟩ := h.at hql
      have c0 := (hbr.cell (p := ⟨b, off + q * 10, none⟩) hbl).trans k0
      have c1 := (hbr.cell (p := ⟨b, off + q * 10 + 1, none⟩) hbl).trans k1
      have c2 := (hbr.cell (p := ⟨b, off + q * 10 + 2, none⟩) hbl).trans k2
      have c3 := (hbr.cell (p := ⟨b, off + q * 10 + 3, none⟩) hbl).trans k3
      have c4 := (hbr.cell (p := ⟨b, off + q * 10 + 4, none⟩) hbl).trans k4
      have c5 := (hbr.cell (p := ⟨b, off + q * 10 + 5, none⟩) hbl).trans k5
      have c6 := (hbr.cell (p := ⟨b, off + q * 10 + 6, none⟩) hbl).trans k6
      have c7 := (hbr.cell (p := ⟨b, off + q * 10 + 7, none⟩) hbl).trans k7
      have c8 := (hbr.cell (p := ⟨b, off + q * 10 + 8, none⟩) hbl).trans k8
      have c9 := (hbr.cell (p := ⟨b, off + q * 10 + 9, none⟩) hbl).trans k9
      have hx := (h.2.1 _ (List.getElem_mem hql)).on hbr
      have hrq : (L.map Rv.r)[q] = L[q].r := by simp
      have hbad : L[q].r.err ≠ 0 → repsErr (L.map Rv.r) = L[q].r.err := fun he => by
        have := repsErr_bad hqr HOK.out (by rw [hrq]; exact he)
        rw [this, hrq]
      have hgood : L[q].r.err = 0 → ∀ r ∈ (L.map Rv.r).take (q + 1), r.err = 0 := fun he r hr => by
        rw [List.take_add_one, List.getElem?_eq_getElem hqr, hrq] at hr
        rcases List.mem_append.1 hr with hr | hr
        · exact HOK.out r hr
        · simp at hr
          subst hr
          exact he
      have HBAD := Lib.hid hbad
      have HGOOD := Lib.hid hgood
      clear hbad hgood hrq k0 k1 k2 k3 k4 k5 k6 k7 k8 k9 h HOK
      generalize L[q] = x at c0 c1 c2 c3 c4 c5 c6 c7 c8 c9 hx HBAD HGOOD
      have he12 := Rep.err_12 x.r
      have hrt := fun W h => ref6_right x W h
      obtain ⟨r, At, ct, Aa, ca, An, cn, Ab, cb⟩ := x
      simp only [Rv.val, Rv.cells] at hrt c0 c1 c2 c3 c4 c5 c6 c7 c8 c9 HBAD HGOOD he12
      generalize r.err = er at hrt HBAD HGOOD he12
      have hbA := hbr.alloc hbr.size (.cells #[.int .i64 r.kind, .int .u32 (r.src : Int), .int .u32 (r.about : Int), .slice At r.tups.length ct, .slice Aa r.abouts.length ca, .slice An r.nums.length cn, .int .u64 (r.rate : Int), .int .i64 r.ty, .int .i64 r.count, .slice Ab r.body.length cb] 33)
      have hxA := hx.on ((Below.refl _ wr).alloc (Nat.le_refl _) (.cells #[.int .i64 r.kind, .int .u32 (r.src : Int), .int .u32 (r.about : Int), .slice At r.tups.length ct, .slice Aa r.abouts.length ca, .slice An r.nums.length cn, .int .u64 (r.rate : Int), .int .i64 r.ty, .int .i64 r.count, .slice Ab r.body.length cb] 33))
      go_upto_region 7 with (fail)
      have hrt := hrt _ hxA
      clear hxA hx c0 c1 c2 c3 c4 c5 c6 c7 c8 c9
      go_wp2_with fail
      ((with_reducible refine hrt.mono ?_); rintro e w1 ⟨rfl, b1⟩)
      have b2 := hbA.trans (b1.mono hbA.size)
      clear hrt hbA b1 hbr
      by_cases hz : er = 0
      · subst hz
        go_wp2_with fail
        go_roundw
        case rel => exact ⟨q + 1, by omega, by go_num, HGOOD.out (by simp), b2⟩
        case measure => simp [intOf]; omega
      · have hz' : (er != 0) = true := by simpa using hz
        have HE := Lib.hid (HBAD.out hz)
        have hzz := Lib.hid hz
        clear hz HBAD HGOOD he12
        go_wp2_with fail
        go_ret2
        exact ⟨fun hh => by rw [HE.out] at hh; exact absurd hh hzz.out, fun _ => ⟨by rw [HE.out]; rfl, b2⟩⟩
    · have g3 : ¬ (q : Int) < (n : Int) := by omega
      have hall : ∀ r ∈ L.map Rv.r, r.err = 0 := by
        have := HOK.out
        rwa [List.take_of_length_le (by rw [HRL.out]; omega)] at this
      have HALL := Lib.hid hall
      clear hall HOK
      go_wp2_with fail
      go_loopw [4, 9, 27] (fun v _ i wr => ∃ q : Nat, q ≤ n ∧ i = .int .i64 (q : Int) ∧ Own8 wr w.heap.size v (onesB ((L.map Rv.r).take q)) ∧ Below w.heap.size w wr) (fun _ _ i _ => n - (intOf i).toNat)
      case atStart => exact ⟨0, by omega, rfl, World.ownsRow_nil _ _ _ _, hbr⟩
      case round =>
        obtain ⟨p, hp, rfl, ho, hbr⟩ := hrel
        by_cases hlt : p < n
        · have g3 : decide ((p : Int) < (n : Int)) = true := by simp; omega
          have hql : p < L.length := by rw [HL.out]; exact hlt
          have hqr : p < (L.map Rv.r).length := by rw [HRL.out]; exact hlt
          obtain ⟨b, off, rfl, hbl, k0, k1, k2, k3, k4, k5, k6, k7, k8, k9⟩ := h.at hql
          have c0 := (hbr.cell (p := ⟨b, off + p * 10, none⟩) hbl).trans k0
          have c1 := (hbr.cell (p := ⟨b, off + p * 10 + 1, none⟩) hbl).trans k1
          have c2 := (hbr.cell (p := ⟨b, off + p * 10 + 2, none⟩) hbl).trans k2
          have c3 := (hbr.cell (p := ⟨b, off + p * 10 + 3, none⟩) hbl).trans k3
          have c4 := (hbr.cell (p := ⟨b, off + p * 10 + 4, none⟩) hbl).trans k4
          have c5 := (hbr.cell (p := ⟨b, off + p * 10 + 5, none⟩) hbl).trans k5
          have c6 := (hbr.cell (p := ⟨b, off + p * 10 + 6, none⟩) hbl).trans k6
          have c7 := (hbr.cell (p := ⟨b, off + p * 10 + 7, none⟩) hbl).trans k7
          have c8 := (hbr.cell (p := ⟨b, off + p * 10 + 8, none⟩) hbl).trans k8
          have c9 := (hbr.cell (p := ⟨b, off + p * 10 + 9, none⟩) hbl).trans k9
          have hx := (h.2.1 _ (List.getElem_mem hql)).on hbr
          have her := HALL.out _ (List.getElem_mem hqr)
          have hrq : (L.map Rv.r)[p] = L[p].r := by simp
          have htk := ones_take hqr
          rw [hrq] at her htk
          have HTK := Lib.hid htk
          have hlen : (onesB ((L.map Rv.r).take p)).length ≤ 262144000 := by
            have h1 := ones_le (l := (L.map Rv.r).take p) (fun r hr => HALL.out r (List.mem_of_mem_take hr))
            have h2 : ((L.map Rv.r).take p).length ≤ 1000 := by rw [List.length_take, HRL.out]; omega
            exact Nat.le_trans h1 (Nat.le_trans (Nat.mul_le_mul_right 262144 h2) (by decide))
          have h1l := Rep.one_len L[p].r
          have h1t := Rep.tail_le her
          clear hrq htk k0 k1 k2 k3 k4 k5 k6 k7 k8 k9 h HALL
          generalize onesB ((L.map Rv.r).take p) = R at ho HTK hlen
          generalize L[p] = x at c0 c1 c2 c3 c4 c5 c6 c7 c8 c9 hx HTK her h1l h1t
          have hon := fun W h => ref6_one x W h her
          have hole : x.r.one.length ≤ 262144 := by omega
          obtain ⟨r, At, ct, Aa, ca, An, cn, Ab, cb⟩ := x
          simp only [Rv.val, Rv.cells] at hon c0 c1 c2 c3 c4 c5 c6 c7 c8 c9 HTK hole
          have hbA := hbr.alloc hbr.size (.cells #[.int .i64 r.kind, .int .u32 (r.src : Int), .int .u32 (r.about : Int), .slice At r.tups.length ct, .slice Aa r.abouts.length ca, .slice An r.nums.length cn, .int .u64 (r.rate : Int), .int .i64 r.ty, .int .i64 r.count, .slice Ab r.body.length cb] 33)
          have hal := (Below.refl wr.heap.size wr).alloc (Nat.le_refl _) (.cells #[.int .i64 r.kind, .int .u32 (r.src : Int), .int .u32 (r.about : Int), .slice At r.tups.length ct, .slice Aa r.abouts.length ca, .slice An r.nums.length cn, .int .u64 (r.rate : Int), .int .i64 r.ty, .int .i64 r.count, .slice Ab r.body.length cb] 33)
          have hxA := hx.on hal
          have hoA := own8_kept ho hal
          obtain ⟨Ar, cr, rfl, hr0⟩ := ho.r8
          go_upto_region 14 with (fail)
          have hon := hon _ hxA
          clear hxA hx c0 c1 c2 c3 c4 c5 c6 c7 c8 c9 h1l h1t her hr0 hal
          go_wp2_with fail
          ((with_reducible refine hon.mono ?_); rintro e w1 ⟨v1, rfl, o1, b1⟩)
          have b2 := hbA.trans (b1.mono hbA.size)
          have ho1 := own8_kept hoA b1
          obtain ⟨A1, c1, rfl, r1⟩ := o1.r8
          generalize hT : r.one = T at r1 hole
          have HT := Lib.hid hT
          have hbb : R.length + T.length ≤ 140737488355328 := by omega
          have HBB := Lib.hid hbb
          clear hon hbA b1 hbr hT o1 hoA ho hbb
          go_wp2_with (at_builtin; ((with_reducible refine wpList_append8 rfl (.tmp 31) (.tmp 33) rfl rfl w.heap.size _ _ (by with_unfolding_all rfl) ho1 w1.heap.size A1 _ c1 _ (by with_unfolding_all rfl) r1 HBB.out b2.size ?_); intro v7 w7 ha7))
          have b7 := below_grown b2 b2.size ha7.2.1 (fun k hk => (World.ownsRow.lt ho1 k hk).1)
          have o7 := ha7.1
          have e7 : R ++ T = onesB ((L.map Rv.r).take (p + 1)) := by rw [← HT.out]; exact HTK.out
          rw [e7] at o7
          clear ha7 ho1 r1 b2 e7 HBB
          go_roundw
          case rel => exact ⟨p + 1, by omega, by go_num, o7, b7⟩
          case measure => simp [intOf]; omega
        · have g3 : ¬ (p : Int) < (n : Int) := by omega
          have ho := ho
          rw [List.take_of_length_le (by rw [HRL.out]; omega)] at ho
          have hre := repsErr_ok (by rw [HRL.out]; omega) HALL.out
          unfold RbOut
          generalize hT : onesB (L.map Rv.r) = T at ho hre
          have HT := Lib.hid hT
          obtain ⟨Ar, cr, rfl, hr0⟩ := ho.r8
          clear hT hr0 h
          by_cases hl : 1500 < T.length
          · rw [if_pos hl] at hre
            have HRE := Lib.hid hre
            have g5 : (1500 : Int) < (T.length : Int) := by omega
            clear hre hl
            go_wp2_with fail
            go_ret2
            exact ⟨fun hh => by rw [HRE.out] at hh; omega, fun _ => ⟨by rw [HRE.out]; rfl, hbr⟩⟩
          · rw [if_neg hl] at hre
            have HRE := Lib.hid hre
            have g5 : ¬ (1500 : Int) < (T.length : Int) := by omega
            clear hre hl
            go_wp2_with fail
            go_ret2
            exact ⟨fun _ => ⟨_, rfl, by rw [HT.out]; exact ho, hbr⟩, fun hh => absurd HRE.out hh⟩
end Go.Proofs.Ytnchgmemajmkjaa
namespace Go.Proofs.Ytnchgmemajmkjaa
open Go.RowKit
set_option linter.unusedVariables false
set_option linter.unusedSimpArgs false
set_option maxRecDepth 20000

/-- What rtcp.Bytes answers. -/
def RqOut (w : World) (l : List Rep) (e : Ending) (w' : World) : Prop :=
  (repsErr l = 0 → ∃ A n c, e = .returned (.tuple #[.slice A n c, .int .i64 0]) ∧ R8 w' w'.heap.size A n c (onesB l) ∧ Below w.heap.size w w') ∧
  (repsErr l ≠ 0 → e = .returned (.tuple #[.slice none 0 0, .int .i64 (repsErr l)]) ∧ Below w.heap.size w w')
theorem ones_mono (l : List Rep) (k : Nat) : (onesB (l.take k)).length ≤ (onesB l).length := by
  have e : onesB l = onesB (l.take k) ++ onesB (l.drop k) := by
    unfold onesB
    rw [← List.flatMap_append, List.take_append_drop]
  rw [e, List.length_append]
  omega
set_option maxHeartbeats 2000000 in
theorem rtcp_bytes (A : Option Addr) (n c : Nat) (L : List Rv) (w : World) (h : RR w w.heap.size A n c L) (hn : n ≤ 1000) :
    Calls Try.prog 19 #[.slice A n c] w (RqOut w (L.map Rv.r)) := by
  have hL := h.1
  by_cases h0 : n = 0
  · subst h0
    have : L = [] := List.length_eq_zero_iff.1 hL
    subst this
    clear h hL
    go_enter Try.func19, Try.ntmps19
    go_wp2_with fail
    go_ret2
    exact ⟨fun hh => by simp [repsErr_nil] at hh, fun _ => ⟨rfl, Below.refl _ _⟩⟩
  have g0 : ((n : Int) == 0) = false := by simp; omega
  have HL := Lib.hid hL
  have hrl : (L.map Rv.r).length = n := by simp [hL]
  have HRL := Lib.hid hrl
  clear hL hrl
  go_enter Try.func19, Try.ntmps19
  go_wp2_with fail
  go_loopw [15] (fun i wr => ∃ q : Nat, q ≤ n ∧ i = .int .i64 (q : Int) ∧ (∀ r ∈ (L.map Rv.r).take q, r.err = 0) ∧ Below w.heap.size w wr) (fun i _ => n - (intOf i).toNat)
  case atStart => exact ⟨0, by omega, rfl, by simp, Below.refl _ _⟩
  case round =>
    obtain ⟨q, hq, rfl, hok, hbr⟩ := hrel
    have HOK := Lib.hid hok
    clear hok
    by_cases hlt : q < n
    · have g3 : decide ((q : Int) < (n : Int)) = true := by simp; omega
      have hql : q < L.length := by rw [HL.out]; exact hlt
      have hqr : q < (L.map Rv.r).length := by rw [HRL.out]; exact hlt
      obtain ⟨b, off, rfl, hbl, k0, k1, k2, k3, k4, k5, k6, k7, k8, k9⟩ := h.at hql
      have c0 := (hbr.cell (p := ⟨b, off + q * 10, none⟩) hbl).trans k0
      have c1 := (hbr.cell (p := ⟨b, off + q * 10 + 1, none⟩) hbl).trans k1
      have c2 := (hbr.cell (p := ⟨b, off + q * 10 + 2, none⟩) hbl).trans k2
      have c3 := (hbr.cell (p := ⟨b, off + q * 10 + 3, none⟩) hbl).trans k3
      have c4 := (hbr.cell (p := ⟨b, off + q * 10 + 4, none⟩) hbl).trans k4
      have c5 := (hbr.cell (p := ⟨b, off + q * 10 + 5, none⟩) hbl).trans k5
      have c6 := (hbr.cell (p := ⟨b, off + q * 10 + 6, none⟩) hbl).trans k6
      have c7 := (hbr.cell (p := ⟨b, off + q * 10 + 7, none⟩) hbl).trans k7
      have c8 := (hbr.cell (p := ⟨b, off + q * 10 + 8, none⟩) hbl).trans k8
      have c9 := (hbr.cell (p := ⟨b, off + q * 10 + 9, none⟩) hbl).trans k9
      have hx := (h.2.1 _ (List.getElem_mem hql)).on hbr
      have hrq : (L.map Rv.r)[q] = L[q].r := by simp
      have hbad : L[q].r.err ≠ 0 → repsErr (L.map Rv.r) = L[q].r.err := fun he => by
        have := repsErr_bad hqr HOK.out (by rw [hrq]; exact he)
        rw [this, hrq]
      have hgood : L[q].r.err = 0 → ∀ r ∈ (L.map Rv.r).take (q + 1), r.err = 0 := fun he r hr => by
        rw [List.take_add_one, List.getElem?_eq_getElem hqr, hrq] at hr
        rcases List.mem_append.1 hr with hr | hr
        · exact HOK.out r hr
        · simp at hr
          subst hr
          exact he
      have HBAD := Lib.hid hbad
      have HGOOD := Lib.hid hgood
      clear hbad hgood hrq k0 k1 k2 k3 k4 k5 k6 k7 k8 k9 h HOK
      generalize L[q] = x at c0 c1 c2 c3 c4 c5 c6 c7 c8 c9 hx HBAD HGOOD
      have he12 := Rep.err_12 x.r
      have hrt := fun W h => RP.rtcp_Right x W h
      obtain ⟨r, At, ct, Aa, ca, An, cn, Ab, cb⟩ := x
      simp only [Rv.val, Rv.cells] at hrt c0 c1 c2 c3 c4 c5 c6 c7 c8 c9 HBAD HGOOD he12
      generalize r.err = er at hrt HBAD HGOOD he12
      have hbA := hbr.alloc hbr.size (.cells #[.int .i64 r.kind, .int .u32 (r.src : Int), .int .u32 (r.about : Int), .slice At r.tups.length ct, .slice Aa r.abouts.length ca, .slice An r.nums.length cn, .int .u64 (r.rate : Int), .int .i64 r.ty, .int .i64 r.count, .slice Ab r.body.length cb] 33)
      have hxA := hx.on ((Below.refl _ wr).alloc (Nat.le_refl _) (.cells #[.int .i64 r.kind, .int .u32 (r.src : Int), .int .u32 (r.about : Int), .slice At r.tups.length ct, .slice Aa r.abouts.length ca, .slice An r.nums.length cn, .int .u64 (r.rate : Int), .int .i64 r.ty, .int .i64 r.count, .slice Ab r.body.length cb] 33))
      go_upto_region 6 with (fail)
      have hrt := hrt _ hxA
      clear hxA hx c0 c1 c2 c3 c4 c5 c6 c7 c8 c9
      go_wp2_with fail
      ((with_reducible refine hrt.mono ?_); rintro e w1 ⟨rfl, b1⟩)
      have b2 := hbA.trans (b1.mono hbA.size)
      clear hrt hbA b1 hbr
      by_cases hz : er = 0
      · subst hz
        go_wp2_with fail
        go_roundw
        case rel => exact ⟨q + 1, by omega, by go_num, HGOOD.out (by simp), b2⟩
        case measure => simp [intOf]; omega
      · have hz' : (er != 0) = true := by simpa using hz
        have HE := Lib.hid (HBAD.out hz)
        have hzz := Lib.hid hz
        clear hz HBAD HGOOD he12
        go_wp2_with fail
        go_ret2
        exact ⟨fun hh => by rw [HE.out] at hh; exact absurd hh hzz.out, fun _ => ⟨by rw [HE.out]; rfl, b2⟩⟩
    · have g3 : ¬ (q : Int) < (n : Int) := by omega
      have hall : ∀ r ∈ L.map Rv.r, r.err = 0 := by
        have := HOK.out
        rwa [List.take_of_length_le (by rw [HRL.out]; omega)] at this
      have HALL := Lib.hid hall
      clear hall HOK
      go_wp2_with fail
      go_loopw [7, 27] (fun v i wr => ∃ q : Nat, q ≤ n ∧ i = .int .i64 (q : Int) ∧ (∃ A1 m1 c1, v = .slice A1 m1 c1 ∧ R8 wr wr.heap.size A1 m1 c1 (onesB ((L.map Rv.r).take q)) ∧ m1 ≤ 1500) ∧ Below w.heap.size w wr) (fun _ i _ => n - (intOf i).toNat)
      case atStart => exact ⟨0, by omega, rfl, ⟨none, 0, 0, rfl, R8.nil _ _ _ _, by omega⟩, hbr⟩
      case round =>
        obtain ⟨p, hp, rfl, ⟨Ar, mr, cr, rfl, hr0, hmr⟩, hbr⟩ := hrel
        by_cases hlt : p < n
        · have g3 : decide ((p : Int) < (n : Int)) = true := by simp; omega
          have hql : p < L.length := by rw [HL.out]; exact hlt
          have hqr : p < (L.map Rv.r).length := by rw [HRL.out]; exact hlt
          obtain ⟨b, off, rfl, hbl, k0, k1, k2, k3, k4, k5, k6, k7, k8, k9⟩ := h.at hql
          have c0 := (hbr.cell (p := ⟨b, off + p * 10, none⟩) hbl).trans k0
          have c1 := (hbr.cell (p := ⟨b, off + p * 10 + 1, none⟩) hbl).trans k1
          have c2 := (hbr.cell (p := ⟨b, off + p * 10 + 2, none⟩) hbl).trans k2
          have c3 := (hbr.cell (p := ⟨b, off + p * 10 + 3, none⟩) hbl).trans k3
          have c4 := (hbr.cell (p := ⟨b, off + p * 10 + 4, none⟩) hbl).trans k4
          have c5 := (hbr.cell (p := ⟨b, off + p * 10 + 5, none⟩) hbl).trans k5
          have c6 := (hbr.cell (p := ⟨b, off + p * 10 + 6, none⟩) hbl).trans k6
          have c7 := (hbr.cell (p := ⟨b, off + p * 10 + 7, none⟩) hbl).trans k7
          have c8 := (hbr.cell (p := ⟨b, off + p * 10 + 8, none⟩) hbl).trans k8
          have c9 := (hbr.cell (p := ⟨b, off + p * 10 + 9, none⟩) hbl).trans k9
          have hx := (h.2.1 _ (List.getElem_mem hql)).on hbr
          have her := HALL.out _ (List.getElem_mem hqr)
          have hrq : (L.map Rv.r)[p] = L[p].r := by simp
          have htk := ones_take hqr
          rw [hrq] at her htk
          have HTK := Lib.hid htk
          have hlen : (onesB ((L.map Rv.r).take p)).length ≤ 262144000 := by
            have h1 := ones_le (l := (L.map Rv.r).take p) (fun r hr => HALL.out r (List.mem_of_mem_take hr))
            have h2 : ((L.map Rv.r).take p).length ≤ 1000 := by rw [List.length_take, HRL.out]; omega
            exact Nat.le_trans h1 (Nat.le_trans (Nat.mul_le_mul_right 262144 h2) (by decide))
          have h1l := Rep.one_len L[p].r
          have h1t := Rep.tail_le her
          clear hrq htk k0 k1 k2 k3 k4 k5 k6 k7 k8 k9 h
          generalize onesB ((L.map Rv.r).take p) = R at hr0 HTK hlen
          generalize L[p] = x at c0 c1 c2 c3 c4 c5 c6 c7 c8 c9 hx HTK her h1l h1t
          have hon := fun W h => rtcp_bytesOf x W h her
          have hole : x.r.one.length ≤ 262144 := by omega
          obtain ⟨r, At, ct, Aa, ca, An, cn, Ab, cb⟩ := x
          simp only [Rv.val, Rv.cells] at hon c0 c1 c2 c3 c4 c5 c6 c7 c8 c9 HTK hole
          have hbA := hbr.alloc hbr.size (.cells #[.int .i64 r.kind, .int .u32 (r.src : Int), .int .u32 (r.about : Int), .slice At r.tups.length ct, .slice Aa r.abouts.length ca, .slice An r.nums.length cn, .int .u64 (r.rate : Int), .int .i64 r.ty, .int .i64 r.count, .slice Ab r.body.length cb] 33)
          have hal := (Below.refl wr.heap.size wr).alloc (Nat.le_refl _) (.cells #[.int .i64 r.kind, .int .u32 (r.src : Int), .int .u32 (r.about : Int), .slice At r.tups.length ct, .slice Aa r.abouts.length ca, .slice An r.nums.length cn, .int .u64 (r.rate : Int), .int .i64 r.ty, .int .i64 r.count, .slice Ab r.body.length cb] 33)
          have hxA := hx.on hal
          have hrA := hr0.on hal
          go_upto_region 14 with (fail)
          have hon := hon _ hxA
          clear hxA hx c0 c1 c2 c3 c4 c5 c6 c7 c8 c9 h1l h1t her hr0 hal
          go_wp2_with fail
          ((with_reducible refine hon.mono ?_); rintro e w1 ⟨A1, n1, c1, rfl, r1, b1⟩)
          have b2 := hbA.trans (b1.mono hbA.size)
          have hr1 := hrA.on b1
          have hn1 := r1.1
          have hcc := concat2_at w1.heap.size Ar A1 mr cr n1 c1 _ _ w1 rfl hr1 r1 (by omega)
          have e7 : R ++ r.one = onesB ((L.map Rv.r).take (p + 1)) := HTK.out
          rw [e7] at hcc
          have hs2 := b2.size
          clear hon hbA b1 hbr hrA hr1 r1 e7 hn1
          go_wp2_with fail
          ((with_reducible refine hcc.mono ?_); rintro e w4 ⟨A4, n4, c4, rfl, r4, b4⟩)
          have b5 := b2.trans ((((Below.refl w1.heap.size w1).alloc (Nat.le_refl _) (.cells #[.slice Ar mr cr, .slice A1 n1 c1] 31)).trans (b4.mono (by simp))).mono hs2)
          have hn4 : n4 ≤ (onesB (L.map Rv.r)).length := by rw [← r4.1]; exact ones_mono _ _
          clear hcc b4 b2 hs2
          by_cases hl : 1500 < n4
          · have hre := repsErr_ok (by rw [HRL.out]; omega) HALL.out
            rw [if_pos (by omega)] at hre
            have HRE := Lib.hid hre
            have g5 : (1500 : Int) < (n4 : Int) := by omega
            clear hre hl hn4 r4
            go_wp2_with fail
            go_ret2
            exact ⟨fun hh => by rw [HRE.out] at hh; omega, fun _ => ⟨by rw [HRE.out]; rfl, b5⟩⟩
          · have g5 : ¬ (1500 : Int) < (n4 : Int) := by omega
            have hl' : n4 ≤ 1500 := by omega
            clear hl hn4
            go_wp2_with fail
            go_roundw
            case rel => exact ⟨p + 1, by omega, by go_num, ⟨_, _, _, rfl, r4, hl'⟩, b5⟩
            case measure => simp [intOf]; omega
        · have g3 : ¬ (p : Int) < (n : Int) := by omega
          rw [List.take_of_length_le (by rw [HRL.out]; omega)] at hr0
          have hre := repsErr_ok (by rw [HRL.out]; omega) HALL.out
          rw [if_neg (by rw [hr0.1]; omega)] at hre
          unfold RqOut
          have HRE := Lib.hid hre
          clear hre h
          go_wp2_with fail
          go_ret2
          exact ⟨fun _ => ⟨_, _, _, rfl, hr0, hbr⟩, fun hh => absurd HRE.out hh⟩
end Go.Proofs.Ytnchgmemajmkjaa
