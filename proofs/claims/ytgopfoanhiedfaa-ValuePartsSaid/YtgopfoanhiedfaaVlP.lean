/- The walk of layer 7's law ValueParts. -/
import Derived.Test.YtgopfoanhiedfaaVlK
import Derived.Test.YtgopfoanhiedfaaVlL
import Derived.Deep.CutBlock
namespace Go.Proofs.Ytgopfoanhiedfaa
open Go.RowKit
set_option linter.unusedVariables false
set_option linter.unusedSimpArgs false
set_option maxRecDepth 20000

/-- So many layers of one name, with the Ssrcs of l, each higher by one. -/
def mk (s : ByteArray) (h : Int) (l : List Lay) : Nat → List Lay
  | 0 => []
  | q + 1 => mk s h l q ++ [⟨s, (l.getD q zL).ssrc, h + (q : Int)⟩]
theorem mk_len (s : ByteArray) (h : Int) (l : List Lay) : ∀ q, (mk s h l q).length = q
  | 0 => rfl
  | q + 1 => by rw [mk, List.length_append, mk_len s h l q]; rfl
theorem mk_succ (s : ByteArray) (h : Int) {l : List Lay} {q : Nat} (hq : q < l.length) : mk s h l (q + 1) = mk s h l q ++ [⟨s, (l[q]).ssrc, h + (q : Int)⟩] := by
  rw [mk]
  simp [List.getD, hq]
theorem mk_all {s : ByteArray} {h : Int} {l : List Lay} (hr : right s = true) (hs : s.size ≤ 140737488355328) (h0 : 1 ≤ h) (h1 : h ≤ 1000) (hl : ∀ x ∈ l, x.In) : ∀ q, q ≤ 2 → (∀ x ∈ mk s h l q, x.In ∧ okL x = true)
  | 0, _ => by simp [mk]
  | q + 1, hq => by
    intro x hx
    rw [mk, List.mem_append, List.mem_singleton] at hx
    rcases hx with hx | rfl
    · exact mk_all hr hs h0 h1 hl q (by omega) x hx
    · refine ⟨⟨hs, ?_, ?_⟩, ?_⟩
      · show (l.getD q zL).ssrc < _
        by_cases hql : q < l.length
        · have : l.getD q zL = l[q] := by simp [List.getD, hql]
          rw [this]
          exact (hl _ (List.getElem_mem hql)).ssrc
        · have : l.getD q zL = zL := by simp [List.getD, Nat.le_of_not_lt hql]
          rw [this]
          decide
      · show I64 (h + (q : Int))
        unfold I64
        omega
      · simp only [okL, hr, Bool.true_and, decide_eq_true_eq]
        omega
theorem each_all {l : List Lay} (h : ∀ x ∈ l, x.In ∧ okL x = true) : eachL l = l ∧ eachE l = 0 := by
  have : l.all okL = true := List.all_eq_true.2 fun x hx => (h x hx).2
  unfold eachL eachE
  rw [if_pos this, if_pos this]
  exact ⟨rfl, rfl⟩
theorem items_two {w : World} {A : Option Addr} {c : Nat} {A1 A2 : Option Addr} {k1 k2 c1 c2 : Nat} {X Y : List Lay} (h1 : k1 ≤ 1000) (h2 : k2 ≤ 1000) (hX : ∀ x ∈ X, x.In ∧ okL x = true) (hY : ∀ x ∈ Y, x.In ∧ okL x = true) (r1 : RL w w.heap.size A1 k1 c1 X) (r2 : RL w w.heap.size A2 k2 c2 Y)
    (h : RX w w.heap.size A 2 c 1 [.iface 29 (.slice A1 k1 c1), .iface 29 (.slice A2 k2 c2)]) : Items w A 2 c [⟨1, X, 0⟩, ⟨1, Y, 0⟩] := by
  have e1 := each_all hX
  have e2 := each_all hY
  have := items_lays (r := [⟨1, Y, 0⟩]) h r1 h1 (by
    have := items_lays (r := []) (h.drop1 1 (by omega)) r2 h2 (items_nil _ _ _)
    rwa [e2.1, e2.2] at this)
  rwa [e1.1, e1.2] at this
theorem res_two (X Y : List Lay) (hX : X.length ≤ 2) : resL [] [⟨1, X, 0⟩, ⟨1, Y, 0⟩] = if X.length + Y.length ≤ 3 then (X ++ Y, 0) else ([], 3) := by
  simp [resL, show X.length ≤ 3 by omega]
set_option maxHeartbeats 8000000 in
theorem valueParts_walk (A1 : Option Addr) (n1 c1 : Nat) (a : List Lay) (A2 : Option Addr) (n2 c2 : Nat) (b : List Lay) (w : World) (h1 : RL w w.heap.size A1 n1 c1 a) (m1 : n1 ≤ 1000000000000000) (h2 : RL w w.heap.size A2 n2 c2 b) (m2 : n2 ≤ 1000000000000000) :
    Calls Try.prog 5 #[.slice A1 n1 c1, .slice A2 n2 c2] w (Yes w) := by
  have H1 := Lib.hid h1
  have H2 := Lib.hid h2
  have hc1 := h1.2.2.2.1
  have hc2 := h2.2.2.2.1
  clear h1 h2
  go_enter Try.func5, Try.ntmps5
  go_upto_block 0 with fail
  go_cut [5, 7] from 12 to 32 (fun s5 _ wc => ∃ p : Nat, p = min n1 2 ∧ OwnL wc w.heap.size s5 (mk ⟨#[97]⟩ 1 a p) ∧ Below w.heap.size w wc)
  case first =>
    go_wp2_with fail
    go_loopw [5, 7] (fun v i wr => ∃ q : Nat, q ≤ min n1 2 ∧ i = .int .i64 q ∧ OwnL wr w.heap.size v (mk ⟨#[97]⟩ 1 a q) ∧ Below w.heap.size w wr) (fun _ i _ => 2 - (intOf i).toNat)
    case atStart => exact ⟨0, Nat.zero_le _, rfl, OwnL.nil _ _, Below.refl _ _⟩
    case round =>
      obtain ⟨q, hq, rfl, hown, hb⟩ := hrel
      have hsz := hb.size
      by_cases g1 : q < n1
      · by_cases g2 : q < 2
        · have hql : q < a.length := by rw [H1.out.1]; exact g1
          obtain ⟨u, o, hA, hbl, c0, c1', c2'⟩ := H1.out.at hql
          have d1 := (hb.cell (p := ⟨u, o + q * 3 + 1, none⟩) hbl).trans c1'
          have hxi := H1.out.2.1 _ (List.getElem_mem hql)
          have hss := hxi.ssrc
          have hmk := Lib.hid (mk_succ ⟨#[97]⟩ 1 hql)
          have hl := Lib.hid (mk_len ⟨#[97]⟩ 1 a q)
          have hbl' : u < wr.heap.size := by omega
          clear c0 c1' c2'
          generalize (a[q]).ssrc = z at d1 hss hmk
          clear hql hxi
          have g1' : (q : Int) < (n1 : Int) := by omega
          have g2' : (q : Int) < 2 := by omega
          subst hA
          have hin : (⟨⟨#[97]⟩, z, 1 + (q : Int)⟩ : Lay).In := ⟨by show (⟨#[97]⟩ : ByteArray).size ≤ 140737488355328; decide, hss, by show I64 (1 + (q : Int)); unfold I64; omega⟩
          have s1 := one_rl wr ⟨⟨#[97]⟩, z, 1 + (q : Int)⟩ hin
          have ba := below_alloc wr (.cells #[.string ⟨#[97]⟩, .int .u32 (z : Int), .int .i64 (1 + (q : Int))] 28)
          have o2 := hown.on ba
          have hbz := hb.trans (ba.mono hsz)
          have hbs := hbz.size
          have hll : Hid ((mk ⟨#[97]⟩ 1 a q).length + 1 ≤ 1000000) := Lib.hid (by have := hl.out; omega)
          clear ba hb hown hin
          go_wp2_with (at_builtin; go_loud (with_reducible refine wpList_appendL rfl (.tmp 22) (.tmp 31) rfl rfl w.heap.size u5 (mk ⟨#[97]⟩ 1 a q) (by with_unfolding_all rfl) o2 _ _ 1 1 [⟨⟨#[97]⟩, z, 1 + (q : Int)⟩] (by with_unfolding_all rfl) s1 hll.out hbs ?_); intro v9 w9 ha9)
          go_roundw
          case rel => exact ⟨q + 1, by omega, by go_num, by rw [hmk.out]; exact ha9.1, below_grown hbz hbs ha9.2 fun k hk => (World.ownsRow.lt o2 k hk).1⟩
          case measure => simp [intOf]; omega
        · have hq2 : q = min n1 2 := by omega
          have g2' : ¬ (q : Int) < 2 := by omega
          go_wp2_with fail
          go_meet
          exact ⟨q, hq2, hown, hb⟩
      · have hq2 : q = min n1 2 := by omega
        go_wp2_with fail
        go_meet
        exact ⟨q, hq2, hown, hb⟩
  case rest =>
    obtain ⟨wx, rfl⟩ : ∃ wx, wx = wc := ⟨_, rfl⟩
    obtain ⟨p1, hp1, o1, b1⟩ := hcut
    have K2 := Lib.hid (H2.out.on b1)
    have I1 := Lib.hid H1.out.2.1
    have I2 := Lib.hid H2.out.2.1
    clear H2 H1
    go_upto_block 2 with fail
    go_cut [6, 8] from 33 to 53 (fun s6 _ wd => ∃ p : Nat, p = min n2 2 ∧ OwnL wd wx.heap.size s6 (mk ⟨#[98]⟩ 5 b p) ∧ Below wx.heap.size wx wd)
    case first =>
      go_wp2_with fail
      go_loopw [6, 8] (fun v i wr => ∃ q : Nat, q ≤ min n2 2 ∧ i = .int .i64 q ∧ OwnL wr wx.heap.size v (mk ⟨#[98]⟩ 5 b q) ∧ Below wx.heap.size wx wr) (fun _ i _ => 2 - (intOf i).toNat)
      case atStart => exact ⟨0, Nat.zero_le _, rfl, OwnL.nil _ _, Below.refl _ _⟩
      case round =>
        obtain ⟨q, hq, rfl, hown, hb⟩ := hrel
        have hsz := hb.size
        by_cases g1 : q < n2
        · by_cases g2 : q < 2
          · have hql : q < b.length := by rw [K2.out.1]; exact g1
            obtain ⟨u, o, hA, hbl, c0, c1', c2'⟩ := K2.out.at hql
            have d1 := (hb.cell (p := ⟨u, o + q * 3 + 1, none⟩) hbl).trans c1'
            have hxi := K2.out.2.1 _ (List.getElem_mem hql)
            have hss := hxi.ssrc
            have hmk := Lib.hid (mk_succ ⟨#[98]⟩ 5 hql)
            have hl := Lib.hid (mk_len ⟨#[98]⟩ 5 b q)
            have hbl' : u < wr.heap.size := by omega
            clear c0 c1' c2'
            generalize (b[q]).ssrc = z at d1 hss hmk
            clear hql hxi
            have g1' : (q : Int) < (n2 : Int) := by omega
            have g2' : (q : Int) < 2 := by omega
            subst hA
            have hin : (⟨⟨#[98]⟩, z, 5 + (q : Int)⟩ : Lay).In := ⟨by show (⟨#[98]⟩ : ByteArray).size ≤ 140737488355328; decide, hss, by show I64 (5 + (q : Int)); unfold I64; omega⟩
            have s1 := one_rl wr ⟨⟨#[98]⟩, z, 5 + (q : Int)⟩ hin
            have ba := below_alloc wr (.cells #[.string ⟨#[98]⟩, .int .u32 (z : Int), .int .i64 (5 + (q : Int))] 28)
            have o2 := hown.on ba
            have hbz := hb.trans (ba.mono hsz)
            have hbs := hbz.size
            have hll : Hid ((mk ⟨#[98]⟩ 5 b q).length + 1 ≤ 1000000) := Lib.hid (by have := hl.out; omega)
            clear ba hb hown hin
            go_wp2_with (at_builtin; go_loud (with_reducible refine wpList_appendL rfl (.tmp 43) (.tmp 52) rfl rfl wx.heap.size u6 (mk ⟨#[98]⟩ 5 b q) (by with_unfolding_all rfl) o2 _ _ 1 1 [⟨⟨#[98]⟩, z, 5 + (q : Int)⟩] (by with_unfolding_all rfl) s1 hll.out hbs ?_); intro v9 w9 ha9)
            go_roundw
            case rel => exact ⟨q + 1, by omega, by go_num, by rw [hmk.out]; exact ha9.1, below_grown hbz hbs ha9.2 fun k hk => (World.ownsRow.lt o2 k hk).1⟩
            case measure => simp [intOf]; omega
          · have hq2 : q = min n2 2 := by omega
            have g2' : ¬ (q : Int) < 2 := by omega
            go_wp2_with fail
            go_meet
            exact ⟨q, hq2, hown, hb⟩
        · have hq2 : q = min n2 2 := by omega
          go_wp2_with fail
          go_meet
          exact ⟨q, hq2, hown, hb⟩
    case rest =>
      obtain ⟨p2, hp2, o2, b2⟩ := hcut
      have hX := mk_all (s := ⟨#[97]⟩) (h := 1) (l := a) (by decide) (by decide) (by omega) (by omega) I1.out p1 (by omega)
      have hY := mk_all (s := ⟨#[98]⟩) (h := 5) (l := b) (by decide) (by decide) (by omega) (by omega) I2.out p2 (by omega)
      have lX := mk_len ⟨#[97]⟩ 1 a p1
      have lY := mk_len ⟨#[98]⟩ 5 b p2
      have hq1 : p1 ≤ 2 := by omega
      have hq2 : p2 ≤ 2 := by omega
      clear hp1 hp2
      have o1' := o1.on b2
      have y2 := b1.trans (b2.mono b1.size)
      obtain ⟨E1, e1, rfl, r1, _⟩ := o1'.rl fun z hz => (hX z hz).1
      obtain ⟨E2, e2, rfl, r2, _⟩ := o2.rl fun z hz => (hY z hz).1
      clear o1 o1' o2 b1 b2 K2 I1 I2
      generalize mk ⟨#[97]⟩ 1 a p1 = X at *
      generalize mk ⟨#[98]⟩ 5 b p2 = Y at *
      rw [lX] at r1 ⊢
      rw [lY] at r2 ⊢
      have rz := rx_lit wc wc.heap.size 2 20 _ #[.iface 29 (.slice E1 p1 e1), .iface 29 (.slice E2 p2 e2)] rfl rfl rfl
      have ba := below_alloc wc (.cells #[.iface 29 (.slice E1 p1 e1), .iface 29 (.slice E2 p2 e2)] 20)
      have hcall := layers_any _ 2 2 _ _ (by omega) (items_two (by omega) (by omega) hX hY (r1.on ba) (r2.on ba) rz)
      rw [res_two X Y (by omega)] at hcall
      have y3 := y2.trans (ba.mono y2.size)
      have HX := Lib.hid hX
      have HY := Lib.hid hY
      have R1 := Lib.hid (r1.on ba)
      have R2 := Lib.hid (r2.on ba)
      have LX := Lib.hid lX
      have LY := Lib.hid lY
      by_cases h3 : p1 + p2 ≤ 3
      · rw [if_pos (by omega)] at hcall
        clear hX hY lX lY r1 r2 rz ba y2
        go_wp2_with fail
        refine hcall.mono ?_
        rintro e w5 ⟨A5, d5, rfl, r5, b5⟩
        have R5 := Lib.hid r5
        have R1' := Lib.hid (R1.out.on b5)
        have R2' := Lib.hid (R2.out.on b5)
        have y5 := y3.trans (b5.mono y3.size)
        obtain ⟨N, hN⟩ : ∃ N, N = p1 + p2 := ⟨_, rfl⟩
        have eL : (X ++ Y).length = N := by rw [List.length_append, LX.out, LY.out, hN]
        simp only [eL] at R5
        have EL := Lib.hid eL
        have HN := Lib.hid hN
        have t1 : ¬ (3 : Int) < (p1 : Int) + (p2 : Int) := by omega
        have t2 : ((N : Int) != (p1 : Int) + (p2 : Int)) = false := by simp; omega
        simp only [eL]
        clear hcall r5 b5 y3 R1 R2 eL hN h3
        have hN4 : N ≤ 4 := by have := HN.out; omega
        go_wp2_with fail
        go_loopw [93] (fun i wr => ∃ q : Nat, q ≤ N ∧ i = .int .i64 q ∧ Below w5.heap.size w5 wr) (fun i _ => N - (intOf i).toNat)
        case atStart => exact ⟨0, Nat.zero_le _, rfl, Below.refl _ _⟩
        case round =>
          clear t1 t2
          obtain ⟨j, hj, rfl, hb⟩ := hrel
          have hsz := hb.size
          by_cases hlt : j < N
          · have hjl : j < (X ++ Y).length := by rw [EL.out]; exact hlt
            have hg0 : (j : Int) < (N : Int) := by omega
            obtain ⟨u, o, hA, hbl, a0, a1, a2⟩ := RL.at (l := X ++ Y) R5.out hjl
            have d0 := (hb.cell (p := ⟨u, o + j * 3, none⟩) hbl).trans a0
            have d1 := (hb.cell (p := ⟨u, o + j * 3 + 1, none⟩) hbl).trans a1
            have d2 := (hb.cell (p := ⟨u, o + j * 3 + 2, none⟩) hbl).trans a2
            have ul : u < wr.heap.size := by omega
            clear a0 a1 a2
            subst hA
            by_cases hjp : j < p1
            · have hjx : j < X.length := by rw [LX.out]; exact hjp
              have hget : (X ++ Y)[j] = X[j] := List.getElem_append_left hjx
              rw [hget] at d0 d1 d2
              clear hget
              obtain ⟨u', o', hA', hbl', a0', a1', a2'⟩ := R1'.out.at hjx
              have d0' := (hb.cell (p := ⟨u', o' + j * 3, none⟩) hbl').trans a0'
              have d1' := (hb.cell (p := ⟨u', o' + j * 3 + 1, none⟩) hbl').trans a1'
              have d2' := (hb.cell (p := ⟨u', o' + j * 3 + 2, none⟩) hbl').trans a2'
              have ul' : u' < wr.heap.size := by omega
              clear a0' a1' a2'
              have hnz := fun W => neq_same X[j] W
              generalize X[j] = z at d0 d1 d2 d0' d1' d2' hnz
              have hg1 : (j : Int) < (p1 : Int) := by omega
              have hg2 : decide ((j : Int) < (p1 : Int)) = true := by simp; omega
              have hg3 : decide (j < p1) = true := by simp; omega
              have hg4 : decide ((p1 : Int) ≤ (j : Int)) = false := by simp; omega
              have hg5 : decide (p1 ≤ j) = false := by simp; omega
              clear hjx hjl
              subst hA'
              go_upto_region 18 with (fail)
              go_quiet (fail)
              have hb' := hb.trans ((belowN wr.heap.size wr nq).mono hsz)
              clear hb d0 d1 d2 d0' d1' d2' hg2 hg3 hg4 hg5
              generalize wr.drewN nq = W at hb' ⊢
              go_wp2_with fail
              go_roundw
              case rel => exact ⟨j + 1, by omega, by go_num, hb'⟩
              case measure => simp [intOf]; omega
            · obtain ⟨q, hq⟩ : ∃ q, j = p1 + q := ⟨j - p1, by omega⟩
              have hqy : q < Y.length := by rw [LY.out]; have := HN.out; omega
              have hget : (X ++ Y)[j] = Y[q] := by
                rw [List.getElem_append_right (by rw [LX.out]; omega)]
                congr 1
                rw [LX.out]
                omega
              rw [hget] at d0 d1 d2
              clear hget
              obtain ⟨u', o', hA', hbl', a0', a1', a2'⟩ := R2'.out.at hqy
              have d0' := (hb.cell (p := ⟨u', o' + q * 3, none⟩) hbl').trans a0'
              have d1' := (hb.cell (p := ⟨u', o' + q * 3 + 1, none⟩) hbl').trans a1'
              have d2' := (hb.cell (p := ⟨u', o' + q * 3 + 2, none⟩) hbl').trans a2'
              have ul' : u' < wr.heap.size := by omega
              clear a0' a1' a2'
              have hnz := fun W => neq_same Y[q] W
              generalize Y[q] = z at d0 d1 d2 d0' d1' d2' hnz
              have hq2 : (q : Int) < (p2 : Int) := by have := LY.out; omega
              have hqp : q < p2 := by omega
              have hg2 : decide ((j : Int) < (p1 : Int)) = false := by simp; omega
              have hg3 : decide (j < p1) = false := by simp; omega
              have hg4 : decide ((p1 : Int) ≤ (j : Int)) = true := by simp; omega
              have hg5 : decide (p1 ≤ j) = true := by simp; omega
              have hw1 : IntKind.i64.wrap ((j : Int) - (p1 : Int)) = (q : Int) := by rw [IntWalk.i64_in _ (by omega)]; omega
              have hw2 : (j : Int) - (p1 : Int) = (q : Int) := by omega
              clear hqy hjl hq
              subst hA'
              go_upto_region 18 with (fail)
              go_quiet (fail)
              have hb' := hb.trans ((belowN wr.heap.size wr nq).mono hsz)
              clear hb d0 d1 d2 d0' d1' d2' hg2 hg3 hg4 hg5 hw1 hw2
              generalize wr.drewN nq = W at hb' ⊢
              go_wp2_with fail
              go_roundw
              case rel => exact ⟨j + 1, by omega, by go_num, hb'⟩
              case measure => simp [intOf]; omega
          · have hjn : j = N := by omega
            subst hjn
            have y6 := y5.trans (hb.mono y5.size)
            clear R5 R1' R2' EL HN LX LY HX HY hb y5 hlt hj
            go_wp2_with fail
            refine (known_any _).mono ?_
            rintro e w6 ⟨rfl, b6⟩
            have y7 := y6.trans (b6.mono y6.size)
            clear b6 y6
            go_wp2_with fail
            go_ret
            exact ⟨rfl, y7⟩
      · rw [if_neg (by omega)] at hcall
        clear hX hY lX lY r1 r2 rz ba y2
        go_wp2_with fail
        refine hcall.mono ?_
        rintro e w5 ⟨A5, d5, rfl, r5, b5⟩
        have y5 := y3.trans (b5.mono y3.size)
        have t1 : (3 : Int) < (p1 : Int) + (p2 : Int) := by omega
        clear hcall r5 b5 y3
        go_wp2_with fail
        refine (known_any _).mono ?_
        rintro e w6 ⟨rfl, b6⟩
        have y6 := y5.trans (b6.mono y5.size)
        clear b6 y5
        go_wp2_with fail
        go_ret
        exact ⟨rfl, y6⟩
end Go.Proofs.Ytgopfoanhiedfaa
