/- value.each: all layers of a slice, anew, or why not. -/
import Derived.Test.YtgopfoanhiedfaaVlD
namespace Go.Proofs.Ytgopfoanhiedfaa
open Go.RowKit
set_option linter.unusedVariables false
set_option linter.unusedSimpArgs false
set_option maxRecDepth 20000

/-- What a call hands back: layers, and why not. -/
def LsOut (w : World) (ls : List Lay) (er : Int) (e : Ending) (w' : World) : Prop :=
  ∃ A c, e = .returned (.tuple #[.slice A ls.length c, .int .i64 er]) ∧ RL w' w'.heap.size A ls.length c ls ∧ Below w.heap.size w w'
def eachL (l : List Lay) : List Lay := if l.all okL = true then l else []
def eachE (l : List Lay) : Int := if l.all okL = true then 0 else 12
theorem eachL_in {l : List Lay} (h : ∀ x ∈ l, x.In) : ∀ x ∈ eachL l, x.In := by
  unfold eachL
  split
  · exact h
  · simp
theorem all_take_succ {l : List Lay} {q : Nat} (hq : q < l.length) (h : (l.take q).all okL = true) (hx : okL l[q] = true) : (l.take (q + 1)).all okL = true := by
  rw [List.take_succ_eq_append_getElem hq, List.all_append, h]
  simp [hx]
theorem not_all_at {l : List Lay} {q : Nat} (hq : q < l.length) (hx : okL l[q] = false) : ¬ l.all okL = true := by
  intro h
  rw [List.all_eq_true.1 h _ (List.getElem_mem hq)] at hx
  cases hx
set_option maxHeartbeats 4000000 in
theorem each_any (A : Option Addr) (n c : Nat) (l : List Lay) (w : World) (h : RL w w.heap.size A n c l) (hn : n ≤ 1000) : Calls Try.prog 23 #[.slice A n c] w (LsOut w (eachL l) (eachE l)) := by
  have hl := h.1
  have hin := h.2.1
  have hnc := h.2.2.2.1
  have H := Lib.hid h
  have HL := Lib.hid hl
  have HI := Lib.hid hin
  clear h hl hin
  go_enter Try.func23, Try.ntmps23
  go_wp2
  go_loopw [4, 11] (fun v i wr => ∃ q : Nat, q ≤ n ∧ i = .int .i64 q ∧ OwnL wr w.heap.size v (l.take q) ∧ (l.take q).all okL = true ∧ Below w.heap.size w wr) (fun _ i _ => n - (intOf i).toNat)
  case atStart => exact ⟨0, Nat.zero_le _, rfl, by rw [List.take_zero]; exact OwnL.nil _ _, by simp, Below.refl _ _⟩
  case round =>
    obtain ⟨q, hq, rfl, hown, hall, hb⟩ := hrel
    have hsz := hb.size
    by_cases hlt : q < n
    · have hql : q < l.length := by rw [HL.out]; exact hlt
      obtain ⟨b, off, hA, hbl, c0, c1, c2⟩ := H.out.at hql
      have hxin : (l[q]).In := HI.out _ (List.getElem_mem hql)
      have d0 := (hb.cell (p := ⟨b, off + q * 3, none⟩) hbl).trans c0
      have d1 := (hb.cell (p := ⟨b, off + q * 3 + 1, none⟩) hbl).trans c1
      have d2 := (hb.cell (p := ⟨b, off + q * 3 + 2, none⟩) hbl).trans c2
      clear c0 c1 c2
      have hbl' : b < wr.heap.size := by omega
      have htk : Hid (l.take q ++ [l[q]] = l.take (q + 1)) := Lib.hid (List.take_succ_eq_append_getElem hql).symm
      have hR := fun w => right_lay l[q] w hxin
      have hnot := fun hx => not_all_at (l := l) hql hx
      have hyes := fun hx => all_take_succ (l := l) hql hall hx
      have hlen : Hid ((l.take q).length + 1 ≤ 1000000) := Lib.hid (by rw [List.length_take]; omega)
      have HO := Lib.hid hown
      clear hall hown
      generalize l[q] = x at d0 d1 d2 hxin htk hR hnot hyes
      have HT := Lib.hid hyes
      have HN := Lib.hid hnot
      clear hyes hnot
      subst hA
      by_cases hok : okL x = true
      · have HT' := Lib.hid (HT.out hok)
        rw [rgt_ok hok, rgE_ok hok] at hR
        clear HT HN hok
        obtain ⟨xs, xn, xh⟩ := x
        simp only at d0 d1 d2 hR
        go_wp2_with fail
        refine (hR _).mono ?_
        rintro e w1 ⟨rfl, b1⟩
        have bA := below_alloc wr (.cells #[.string xs, .int .u32 (xn : Int), .int .i64 xh] 28)
        have bW := bA.trans (b1.mono bA.size)
        have bX := hb.trans (bW.mono hsz)
        have hsz1 := bX.size
        have bB := below_alloc w1 (.cells #[.string xs, .int .u32 (xn : Int), .int .i64 xh] 28)
        have bC := below_alloc (w1.alloc (.cells #[.string xs, .int .u32 (xn : Int), .int .i64 xh] 28)) (.cells #[.string xs, .int .u32 (xn : Int), .int .i64 xh] 28)
        have o2 := ((HO.out.on bW).on bB).on bC
        have s1 := one_rl_at (w1.alloc (.cells #[.string xs, .int .u32 (xn : Int), .int .i64 xh] 28)) (w1.heap.size + 1) (by simp) ⟨xs, xn, xh⟩ hxin
        have bY := (bX.trans (bB.mono hsz1)).trans (bC.mono (bX.trans (bB.mono hsz1)).size)
        have hbase := bY.size
        clear b1 bA bW bB bC hb
        go_wp2_with (at_builtin; go_loud (with_reducible refine wpList_appendL rfl (.tmp 28) (.tmp 30) rfl rfl w.heap.size u4 (l.take q) (by with_unfolding_all rfl) o2 _ _ 1 1 [⟨xs, xn, xh⟩] (by with_unfolding_all rfl) s1 hlen.out hbase ?_); intro v9 w9 ha9)
        go_roundw
        case rel => exact ⟨q + 1, by omega, by go_num, by rw [← htk.out]; exact ha9.1, HT'.out, below_grown bY hbase ha9.2 fun k hk => (World.ownsRow.lt o2 k hk).1⟩
        case measure => simp [intOf]; omega
      · have hok : okL x = false := by simpa using hok
        have HN' := Lib.hid (HN.out hok)
        rw [rgt_no hok, rgE_no hok] at hR
        clear HT HN hok
        obtain ⟨xs, xn, xh⟩ := x
        simp only at d0 d1 d2 hR
        go_wp2_with fail
        refine (hR _).mono ?_
        rintro e w1 ⟨rfl, b1⟩
        have bA := below_alloc wr (.cells #[.string xs, .int .u32 (xn : Int), .int .i64 xh] 28)
        have bW := bA.trans (b1.mono bA.size)
        have bX := hb.trans (bW.mono hsz)
        clear b1 bA bW hb
        go_wp2_with fail
        go_ret2
        unfold LsOut eachL eachE
        rw [if_neg HN'.out, if_neg HN'.out]
        exact ⟨none, 0, rfl, RL.nil _ _ _ _, bX.alloc bX.size _⟩
    · have hqn : q = n := by omega
      subst hqn
      rw [List.take_of_length_le (by rw [HL.out]; omega)] at hown hall
      obtain ⟨A', c', rfl, hr, _⟩ := hown.rl HI.out
      have HA := Lib.hid hall
      have HR := Lib.hid hr
      have HQ := Lib.hid HL.out
      clear hall hown hr
      go_wp2_with fail
      go_ret2
      unfold LsOut eachL eachE
      rw [if_pos HA.out, if_pos HA.out]
      exact ⟨A', c', rfl, HR.out, hb⟩
end Go.Proofs.Ytgopfoanhiedfaa
