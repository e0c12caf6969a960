/- value.Layers: all layers that a row of values is, or why not. -/
import Derived.Test.YtgopfoanhiedfaaVlF
namespace Go.Proofs.Ytgopfoanhiedfaa
open Go.RowKit
set_option linter.unusedVariables false
set_option linter.unusedSimpArgs false
set_option maxRecDepth 20000

/-- What a row of values tells, item by item. -/
def Items (w : World) : Option Addr → Nat → Nat → List Itm → Prop
  | _, n, _, [] => n = 0
  | A, n, c, it :: r => (0 < n ∧ n ≤ c ∧ 0 < it.k ∧ it.k ≤ n ∧ it.ls.length ≤ 1000 ∧ ∀ x ∈ it.ls, x.In) ∧ (∀ W, Below w.heap.size w W → Calls Try.prog 17 #[.slice A n c] W (NextOut W it)) ∧ Items w (cutA A c it.k) (n - it.k) (c - it.k) r
/-- All of them together. -/
def resL : List Lay → List Itm → List Lay × Int
  | acc, [] => if acc.length ≤ 3 then (acc, 0) else ([], 3)
  | acc, it :: r => if it.er = 0 then resL (if acc.length ≤ 3 then acc ++ it.ls else acc) r else ([], it.er)
set_option maxHeartbeats 4000000 in
theorem layers_any (A : Option Addr) (n c : Nat) (its : List Itm) (w : World) (hn : n ≤ 1000) (h : Items w A n c its) : Calls Try.prog 8 #[.slice A n c] w (LsOut w (resL [] its).1 (resL [] its).2) := by
  obtain ⟨R, hR⟩ : ∃ R, R = resL [] its := ⟨_, rfl⟩
  rw [← hR]
  have HR := Lib.hid hR.symm
  have HI := Lib.hid h
  clear h hR
  go_enter Try.func8, Try.ntmps8
  go_wp2
  go_loopw [0, 4] (fun lv v wr => ∃ (A : Option Addr) (n c : Nat) (its : List Itm) (acc : List Lay), lv = .slice A n c ∧ n ≤ 1000 ∧ Hid (Items w A n c its) ∧ OwnL wr w.heap.size v acc ∧ Hid (acc.length ≤ 1003 ∧ ∀ x ∈ acc, x.In) ∧ Hid (resL acc its = R) ∧ Below w.heap.size w wr) (fun lv _ _ => lenOf lv)
  case atStart => exact ⟨A, n, c, its, [], rfl, hn, HI, OwnL.nil _ _, Lib.hid (by simp), HR, Below.refl _ _⟩
  case round =>
    clear HI HR hn
    obtain ⟨A, n, c, its, acc, rfl, hn, HI, hown, HA, HR, hb⟩ := hrel
    have hsz := hb.size
    cases its with
    | nil =>
      have h0 : n = 0 := HI.out
      subst h0
      obtain ⟨A', c', rfl, hr, _⟩ := hown.rl HA.out.2
      by_cases h3 : acc.length ≤ 3
      · have e : R = (acc, 0) := by rw [← HR.out]; simp [resL, h3]
        subst e
        have h3' : ¬ 3 < acc.length := by omega
        clear h3 HR
        generalize hm : acc.length = m at h3' hr
        have HM := Lib.hid hm
        clear hm hown
        go_wp2_with fail
        go_ret2
        exact ⟨A', c', by rw [HM.out]; rfl, by rw [HM.out]; exact hr, hb⟩
      · have e : R = ([], 3) := by rw [← HR.out]; simp [resL, h3]
        subst e
        have h3' : 3 < acc.length := by omega
        clear h3 HR
        generalize hm : acc.length = m at h3' hr
        have HM := Lib.hid hm
        clear hm hown
        go_wp2_with fail
        go_ret2
        exact ⟨none, 0, rfl, RL.nil _ _ _ _, hb⟩
    | cons it r =>
      obtain ⟨⟨hn0, hnc, hk0, hkn, hl, hli⟩, hnext, hrest⟩ := HI.out
      have hN := hnext wr hb
      have HRest := Lib.hid hrest
      have HLi := Lib.hid hli
      have HL := Lib.hid hl
      clear HI hnext hrest hli hl
      obtain ⟨k, ls, er⟩ := it
      simp only at hN hk0 hkn HRest HLi HL
      have hcut := fun W => run_fromV A n c k hkn hnc W
      have hnc' := Lib.hid hnc
      go_wp2_with fail
      refine hN.mono ?_
      rintro e w1 ⟨A1, c1, rfl, r1, b1⟩
      clear hN
      simp only at r1
      have bX := hb.trans (b1.mono hsz)
      have o1 := hown.on b1
      have hbase := bX.size
      clear b1 hb hown
      by_cases he : er = 0
      · subst he
        have HR' : Hid (resL (if acc.length ≤ 3 then acc ++ ls else acc) r = R) := Lib.hid (by rw [← HR.out]; simp [resL])
        clear HR
        obtain ⟨A', c', hu, hr, _⟩ := o1.rl HA.out.2
        subst hu
        clear hr
        by_cases h3 : acc.length ≤ 3
        · have HR2 : Hid (resL (acc ++ ls) r = R) := Lib.hid (by rw [← HR'.out, if_pos h3])
          have hbb : Hid (acc.length + ls.length ≤ 1000000) := Lib.hid (by have := HL.out; omega)
          have HA2 : Hid ((acc ++ ls).length ≤ 1003 ∧ ∀ x ∈ acc ++ ls, x.In) := Lib.hid ⟨by have := HL.out; rw [List.length_append]; omega, fun x hx => by
            rcases List.mem_append.1 hx with hx | hx
            · exact HA.out.2 x hx
            · exact HLi.out x hx⟩
          clear HR' HA HLi HL
          go_wp2_with (at_builtin; go_loud (with_reducible refine wpList_appendL rfl (.tmp 23) (.tmp 24) rfl rfl w.heap.size (.slice A' acc.length c') acc (by with_unfolding_all rfl) o1 w1.heap.size A1 ls.length c1 ls (by with_unfolding_all rfl) r1 hbb.out hbase ?_); intro v9 w9 ha9)
          go_roundw
          case rel => exact ⟨cutA A c k, n - k, c - k, r, acc ++ ls, rfl, by omega, HRest, ha9.1, HA2, HR2, below_grown bX hbase ha9.2 fun k hk => (World.ownsRow.lt o1 k hk).1⟩
          case measure => simp [lenOf]; omega
        · have HR2 : Hid (resL acc r = R) := Lib.hid (by rw [← HR'.out, if_neg h3])
          clear HR' HLi HL
          go_wp2_with fail
          go_roundw
          case rel => exact ⟨cutA A c k, n - k, c - k, r, acc, rfl, by omega, HRest, o1, HA, HR2, bX⟩
          case measure => simp [lenOf]; omega
      · have e : R = ([], er) := by rw [← HR.out]; simp [resL, he]
        subst e
        have he' : (er != 0) = true := by simpa using he
        clear he HR HLi HL HA HRest
        go_wp2_with fail
        go_ret2
        exact ⟨none, 0, rfl, RL.nil _ _ _ _, bX⟩
end Go.Proofs.Ytgopfoanhiedfaa
