/- Contracts: limelightref6.known, tuples. -/
import Derived.Test.YtnchgmemajmkjaaRcM
import Derived.Test.YtnchgmemajmkjaaRatR
import Derived.BigQuiet
import Derived.Deep.QuietTactic
namespace Go.Proofs.Ytnchgmemajmkjaa
open Go.RowKit
set_option linter.unusedVariables false
set_option linter.unusedSimpArgs false
set_option maxRecDepth 20000

theorem ref6_known (t c : Int) (w : World) : Calls Try.prog 51 #[.int .i64 t, .int .i64 c] w (AnsS (.bool (oursTC t c)) w) := by
  by_cases h1 : t = 205
  · subst h1
    by_cases h2 : c = 3
    · subst h2
      go_enter Try.func51, Try.ntmps51
      go_wp2_with fail
      go_ret
      exact ⟨rfl, rfl⟩
    by_cases h3 : c = 4
    · subst h3
      go_enter Try.func51, Try.ntmps51
      go_wp2_with fail
      go_ret
      exact ⟨rfl, rfl⟩
    have e : oursTC 205 c = false := by simp [oursTC, h2, h3]
    rw [e]
    have d2 : (c == 3) = false := by simpa using h2
    have d3 : (c == 4) = false := by simpa using h3
    go_enter Try.func51, Try.ntmps51
    go_wp2_with fail
    go_ret
    exact ⟨rfl, rfl⟩
  have d1 : (t == 205) = false := by simpa using h1
  by_cases h2 : t = 206
  · subst h2
    by_cases h2 : c = 1
    · subst h2
      go_enter Try.func51, Try.ntmps51
      go_wp2_with fail
      go_ret
      exact ⟨rfl, rfl⟩
    by_cases h3 : c = 4
    · subst h3
      go_enter Try.func51, Try.ntmps51
      go_wp2_with fail
      go_ret
      exact ⟨rfl, rfl⟩
    by_cases h4 : c = 15
    · subst h4
      go_enter Try.func51, Try.ntmps51
      go_wp2_with fail
      go_ret
      exact ⟨rfl, rfl⟩
    have e : oursTC 206 c = false := by simp [oursTC, h2, h3, h4]
    rw [e]
    have d2 : (c == 1) = false := by simpa using h2
    have d3 : (c == 4) = false := by simpa using h3
    have d4 : (c == 15) = false := by simpa using h4
    go_enter Try.func51, Try.ntmps51
    go_wp2_with fail
    go_ret
    exact ⟨rfl, rfl⟩
  have d2 : (t == 206) = false := by simpa using h2
  have e : oursTC t c = false := by simp [oursTC, h1, h2]
  rw [e]
  clear h1 h2
  go_enter Try.func51, Try.ntmps51
  go_wp2_with fail
  go_ret
  exact ⟨rfl, rfl⟩

theorem tups_take {l : List Tup} {q : Nat} (h : q < l.length) : (l.take (q + 1)).all Tup.ok = ((l.take q).all Tup.ok && l[q].ok) := by
  rw [List.take_add_one, List.getElem?_eq_getElem h]
  rw [List.all_append]
  simp
theorem tups_bad {l : List Tup} {q : Nat} (h : q < l.length) (hb : l[q].ok = false) : tupsOk l = false := by
  unfold tupsOk
  rw [Bool.and_eq_false_iff]
  left
  rw [List.all_eq_false]
  exact ⟨l[q], List.getElem_mem h, by simp [hb]⟩
set_option maxHeartbeats 1000000 in
theorem ref6_tuples (A : Option Addr) (n c : Nat) (l : List Tup) (w : World) (h : RT w w.heap.size A n c l) (hn : n ≤ 140737488355328) :
    Calls Try.prog 50 #[.slice A n c] w (AnsW (.bool (tupsOk l)) w) := by
  have hL := Lib.hid h.1
  go_enter Try.func50, Try.ntmps50
  go_wp2_with fail
  go_loopw [4, 7] (fun _ i wr => ∃ q : Nat, q ≤ n ∧ i = .int .i64 (q : Int) ∧ (l.take q).all Tup.ok = true ∧ Below w.heap.size w wr) (fun _ i _ => n - (intOf i).toNat)
  case atStart => exact ⟨0, by omega, rfl, by simp, Below.refl _ _⟩
  case round =>
    obtain ⟨q, hq, rfl, hok, hbr⟩ := hrel
    have HOK := Lib.hid hok
    clear hok
    by_cases hlt : q < n
    · have g3 : decide ((q : Int) < (n : Int)) = true := by simp; omega
      have hql : q < l.length := by rw [hL.out]; exact hlt
      obtain ⟨b, off, rfl, hbl, k0, k1, k2⟩ := h.at hql
      have htk := Lib.hid (tups_take hql)
      have hbad := Lib.hid (fun hb => tups_bad hql hb)
      have hin := h.2.1 _ (List.getElem_mem hql)
      have c0 := (hbr.cell (p := ⟨b, off + q * 3, none⟩) hbl).trans k0
      have c1 := (hbr.cell (p := ⟨b, off + q * 3 + 1, none⟩) hbl).trans k1
      have c2 := (hbr.cell (p := ⟨b, off + q * 3 + 2, none⟩) hbl).trans k2
      clear k0 k1 k2 h
      have hb1 := hbr.size
      generalize l[q] = t at c0 c1 c2 htk hbad hin
      have hdn : ∀ W, Calls Try.prog 29 #[.int .u64 (t.rate : Int), .int .i64 17] W fun e w' => e = .returned (.int .u64 (dnR t.rate 17 : Int)) ∧ w' = W := fun W => (ref_down_s t.rate 17 W hin.rate (by omega)).mono fun _ _ h => ⟨h.1, h.2.symm⟩
      have e17 := dnR_in hin.rate (bits := 17) (by omega)
      have ok : t.ok = !(decide (t.over < 0) || (decide (511 < t.over) || decide (dnR t.rate 17 ≠ t.rate))) := by rw [e17]; rfl
      generalize dnR t.rate 17 = D at hdn ok
      have OK := Lib.hid ok
      clear ok e17 hin
      by_cases o1 : t.over < 0
      · have ok0 : t.ok = false := by rw [OK.out]; simp [o1]
        have ok0 := Lib.hid ok0
        go_wp2_with fail
        go_quiet ((go_at_call 29; refine Calls.quiet_of_same (hdn _)))
        have b2 := hbr.alloc hb1 (.cells #[.int .u32 (t.owner : Int), .int .u64 (t.rate : Int), .int .i64 t.over] 57)
        have b3 := b2.trans ((below_drewN _ _ nq).mono b2.size)
        clear c0 c1 c2 hdn b2 hbr
        generalize World.drewN _ nq = W at b3 ⊢
        go_wp2_with fail
        go_ret
        exact ⟨by rw [hbad.out ok0.out]; rfl, b3⟩
      by_cases o2 : 511 < t.over
      · have ok0 : t.ok = false := by rw [OK.out]; simp [o2]
        have ok0 := Lib.hid ok0
        go_wp2_with fail
        go_quiet ((go_at_call 29; refine Calls.quiet_of_same (hdn _)))
        have b2 := hbr.alloc hb1 (.cells #[.int .u32 (t.owner : Int), .int .u64 (t.rate : Int), .int .i64 t.over] 57)
        have b3 := b2.trans ((below_drewN _ _ nq).mono b2.size)
        clear c0 c1 c2 hdn b2 hbr
        generalize World.drewN _ nq = W at b3 ⊢
        go_wp2_with fail
        go_ret
        exact ⟨by rw [hbad.out ok0.out]; rfl, b3⟩
      by_cases o3 : D = t.rate
      · subst o3
        have ok0 : t.ok = true := by rw [OK.out]; simp [o1, o2]
        have ok0 := Lib.hid ok0
        go_wp2_with fail
        go_quiet ((go_at_call 29; refine Calls.quiet_of_same (hdn _)))
        have b2 := hbr.alloc hb1 (.cells #[.int .u32 (t.owner : Int), .int .u64 (t.rate : Int), .int .i64 t.over] 57)
        have b3 := b2.trans ((below_drewN _ _ nq).mono b2.size)
        clear c0 c1 c2 hdn b2 hbr
        generalize World.drewN _ nq = W at b3 ⊢
        go_wp2_with fail
        go_roundw
        case rel => exact ⟨q + 1, by omega, by go_num, by rw [htk.out, HOK.out, ok0.out]; rfl, b3⟩
        case measure => simp [intOf]; omega
      · have ok0 : t.ok = false := by rw [OK.out]; simp [o3]
        have ok0 := Lib.hid ok0
        have o4 : ((D : Int) != (t.rate : Int)) = true := by simp; omega
        clear o3
        go_wp2_with fail
        go_quiet ((go_at_call 29; refine Calls.quiet_of_same (hdn _)))
        have b2 := hbr.alloc hb1 (.cells #[.int .u32 (t.owner : Int), .int .u64 (t.rate : Int), .int .i64 t.over] 57)
        have b3 := b2.trans ((below_drewN _ _ nq).mono b2.size)
        clear c0 c1 c2 hdn b2 hbr
        generalize World.drewN _ nq = W at b3 ⊢
        go_wp2_with fail
        go_ret
        exact ⟨by rw [hbad.out ok0.out]; rfl, b3⟩
    · have g3 : ¬ (q : Int) < (n : Int) := by omega
      have hr : tupsOk l = decide ((n : Int) ≤ 6) := by
        have h1 := HOK.out
        rw [List.take_of_length_le (by rw [hL.out]; omega)] at h1
        unfold tupsOk
        rw [h1, Bool.true_and, hL.out]
        simp only [decide_eq_decide]
        omega
      have HR := Lib.hid hr
      clear hr h
      go_wp2_with fail
      go_ret
      exact ⟨by rw [HR.out]; rfl, hbr⟩
end Go.Proofs.Ytnchgmemajmkjaa
