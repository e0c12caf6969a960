/- ref8.Same: field by field. -/
import Derived.Test.YtgjncaobcgjefaaCtM
import Derived.BigQuiet
import Derived.Deep.CutRange
import Derived.Deep.QuietTactic
import Derived.Test.YtgjncaobcgjefaaNt
namespace Go.Proofs.Ytgjncaobcgjefaa
open Go.RowKit
set_option linter.unusedVariables false
set_option linter.unusedSimpArgs false
set_option maxRecDepth 20000

theorem below_alloc (w : World) (o : Obj) : Below w.heap.size w (w.alloc o) := (Below.refl _ _).alloc (Nat.le_refl _) _
/-- Two lists that are as long part somewhere, or are the same. -/
theorem part_at {α : Type} : ∀ {l r : List α}, l.length = r.length → l ≠ r → ∃ q, ∃ (h : q < l.length) (h' : q < r.length), l[q] ≠ r[q] ∧ ∀ (j : Nat) (hj : j < q), l[j]'(by omega) = r[j]'(by omega)
  | [], [], _, h => absurd rfl h
  | [], _ :: _, h, _ => by simp at h
  | _ :: _, [], h, _ => by simp at h
  | x :: l, y :: r, h, hne => by
    by_cases e : x = y
    · subst e
      obtain ⟨q, h1, h2, h3, h4⟩ := part_at (l := l) (r := r) (by simpa using h) (fun e => hne (by rw [e]))
      refine ⟨q + 1, by simp; omega, by simp; omega, by simpa using h3, fun j hj => ?_⟩
      match j with
      | 0 => rfl
      | j + 1 => simpa using h4 j (by omega)
    · exact ⟨0, by simp, by simp, e, fun j hj => by omega⟩
set_option maxHeartbeats 8000000 in
theorem ref8_num (a b : Ctl) (A A' : Option Addr) (c c' : Nat) (w : World) (h : a.kind ≠ b.kind ∨ a.cap ≠ b.cap ∨ a.peer ≠ b.peer ∨ a.height ≠ b.height ∨ a.cls ≠ b.cls ∨ a.layer ≠ b.layer ∨ a.code ≠ b.code ∨ a.layers.length ≠ b.layers.length) :
    Calls Try.prog 10 #[a.val A c, b.val A' c'] w (Ans (.bool false) w) := by
  have ga := Blk.new w 25 #[.int .i64 a.kind, .int .i64 a.cap, .slice A a.layers.length c, .int .i64 a.peer, .int .i64 a.height, .int .i64 a.cls, .int .i64 a.layer, .int .i64 a.code]
  have gb := Blk.new (w.alloc (.cells #[.int .i64 a.kind, .int .i64 a.cap, .slice A a.layers.length c, .int .i64 a.peer, .int .i64 a.height, .int .i64 a.cls, .int .i64 a.layer, .int .i64 a.code] 25)) 25 #[.int .i64 b.kind, .int .i64 b.cap, .slice A' b.layers.length c', .int .i64 b.peer, .int .i64 b.height, .int .i64 b.cls, .int .i64 b.layer, .int .i64 b.code]
  have y0 := (below_alloc w (.cells #[.int .i64 a.kind, .int .i64 a.cap, .slice A a.layers.length c, .int .i64 a.peer, .int .i64 a.height, .int .i64 a.cls, .int .i64 a.layer, .int .i64 a.code] 25)).alloc (by simp) (.cells #[.int .i64 b.kind, .int .i64 b.cap, .slice A' b.layers.length c', .int .i64 b.peer, .int .i64 b.height, .int .i64 b.cls, .int .i64 b.layer, .int .i64 b.code] 25)
  obtain ⟨ak, ap, al, ae, ah, ac, ay, ad⟩ := a
  obtain ⟨bk, bp, bl, be', bh, bc, by', bd⟩ := b
  simp only at h ga gb y0
  clear ga gb
  by_cases q0 : ak = bk
  · subst q0
    by_cases q1 : ap = bp
    · subst q1
      by_cases q2 : ae = be'
      · subst q2
        by_cases q3 : ah = bh
        · subst q3
          by_cases q4 : ac = bc
          · subst q4
            by_cases q5 : ay = by'
            · subst q5
              by_cases q6 : ad = bd
              · subst q6
                have hd : ((al.length : Int) != (bl.length : Int)) = true := by
                  rcases h with h | h | h | h | h | h | h | h
                  all_goals first | exact absurd rfl h | (simp; omega)
                clear h
                go_enter Try.func10, Try.ntmps10
                go_wp2_with fail
                go_ret
                exact ⟨rfl, y0⟩
              · have hd : (ad != bd) = true := by simpa using q6
                clear h q6
                go_enter Try.func10, Try.ntmps10
                go_wp2_with fail
                go_ret
                exact ⟨rfl, y0⟩
            · have hd : (ay != by') = true := by simpa using q5
              clear h q5
              go_enter Try.func10, Try.ntmps10
              go_wp2_with fail
              go_ret
              exact ⟨rfl, y0⟩
          · have hd : (ac != bc) = true := by simpa using q4
            clear h q4
            go_enter Try.func10, Try.ntmps10
            go_wp2_with fail
            go_ret
            exact ⟨rfl, y0⟩
        · have hd : (ah != bh) = true := by simpa using q3
          clear h q3
          go_enter Try.func10, Try.ntmps10
          go_wp2_with fail
          go_ret
          exact ⟨rfl, y0⟩
      · have hd : (ae != be') = true := by simpa using q2
        clear h q2
        go_enter Try.func10, Try.ntmps10
        go_wp2_with fail
        go_ret
        exact ⟨rfl, y0⟩
    · have hd : (ap != bp) = true := by simpa using q1
      clear h q1
      go_enter Try.func10, Try.ntmps10
      go_wp2_with fail
      go_ret
      exact ⟨rfl, y0⟩
  · have hd : (ak != bk) = true := by simpa using q0
    clear h q0
    go_enter Try.func10, Try.ntmps10
    go_wp2_with fail
    go_ret
    exact ⟨rfl, y0⟩
set_option maxHeartbeats 8000000 in
theorem ref8_lists_yes (ak ap ae ah ac ay ad : Int) (la lb : List Lay) (n : Nat) (A A' : Option Addr) (c c' : Nat) (w : World) (h1 : RL w w.heap.size A n c la) (h2 : RL w w.heap.size A' n c' lb) (hnn : n ≤ 1000000) (he : la = lb) :
    Calls Try.prog 10 #[.agg #[.int .i64 ak, .int .i64 ap, .slice A n c, .int .i64 ae, .int .i64 ah, .int .i64 ac, .int .i64 ay, .int .i64 ad], .agg #[.int .i64 ak, .int .i64 ap, .slice A' n c', .int .i64 ae, .int .i64 ah, .int .i64 ac, .int .i64 ay, .int .i64 ad]] w (Ans (.bool true) w) := by
  have ga := (Blk.new w 25 #[.int .i64 ak, .int .i64 ap, .slice A n c, .int .i64 ae, .int .i64 ah, .int .i64 ac, .int .i64 ay, .int .i64 ad]).alloc (.cells #[.int .i64 ak, .int .i64 ap, .slice A' n c', .int .i64 ae, .int .i64 ah, .int .i64 ac, .int .i64 ay, .int .i64 ad] 25)
  have gb : Blk _ (w.heap.size + 1) _ _ := (by simpa using Blk.new (w.alloc (.cells #[.int .i64 ak, .int .i64 ap, .slice A n c, .int .i64 ae, .int .i64 ah, .int .i64 ac, .int .i64 ay, .int .i64 ad] 25)) 25 #[.int .i64 ak, .int .i64 ap, .slice A' n c', .int .i64 ae, .int .i64 ah, .int .i64 ac, .int .i64 ay, .int .i64 ad])
  have y0 := (below_alloc w (.cells #[.int .i64 ak, .int .i64 ap, .slice A n c, .int .i64 ae, .int .i64 ah, .int .i64 ac, .int .i64 ay, .int .i64 ad] 25)).alloc (by simp) (.cells #[.int .i64 ak, .int .i64 ap, .slice A' n c', .int .i64 ae, .int .i64 ah, .int .i64 ac, .int .i64 ay, .int .i64 ad] 25)
  have HA := Lib.hid (h1.on y0)
  have HB := Lib.hid (h2.on y0)
  have ga := Lib.hid ga
  have gb := Lib.hid gb
  have l1 := Lib.hid h1.1
  have l2 := Lib.hid h2.1
  have HE := Lib.hid he
  clear he
  clear h1 h2
  go_enter Try.func10, Try.ntmps10
  go_wp2_with fail
  generalize (w.alloc (.cells #[.int .i64 ak, .int .i64 ap, .slice A n c, .int .i64 ae, .int .i64 ah, .int .i64 ac, .int .i64 ay, .int .i64 ad] 25)).alloc (.cells #[.int .i64 ak, .int .i64 ap, .slice A' n c', .int .i64 ae, .int .i64 ah, .int .i64 ac, .int .i64 ay, .int .i64 ad] 25) = W at *
  generalize hG1 : w.heap.size + 1 = G' at *
  have HG1 := Lib.hid hG1
  clear hG1
  go_loopw [65] (fun i wr => ∃ j : Nat, j ≤ n ∧ i = .int .i64 j ∧ Below W.heap.size W wr) (fun i _ => n - (intOf i).toNat)
  case atStart => exact ⟨0, Nat.zero_le _, rfl, Below.refl _ _⟩
  case round =>
    obtain ⟨j, hj, rfl, hb⟩ := hrel
    have hsz := hb.size
    have ka := (blk8 (ga.out.below hb ga.out.lt)).2.2.1
    have kb := (blk8 (gb.out.below hb gb.out.lt)).2.2.1
    have xa := ga.out.lt
    have xb := gb.out.lt
    by_cases hlt : j < n
    · have q1 : j < la.length := by rw [l1.out]; exact hlt
      have q2 : j < lb.length := by rw [l2.out]; exact hlt
      obtain ⟨u, o, hA, hu, a0, a1, a2⟩ := HA.out.at q1
      obtain ⟨u', o', hA', hu', b0, b1, b2⟩ := HB.out.at q2
      have d0 := (hb.cell (p := ⟨u, o + j * 3, none⟩) hu).trans a0
      have d1 := (hb.cell (p := ⟨u, o + j * 3 + 1, none⟩) hu).trans a1
      have d2 := (hb.cell (p := ⟨u, o + j * 3 + 2, none⟩) hu).trans a2
      have d0' := (hb.cell (p := ⟨u', o' + j * 3, none⟩) hu').trans b0
      have d1' := (hb.cell (p := ⟨u', o' + j * 3 + 1, none⟩) hu').trans b1
      have d2' := (hb.cell (p := ⟨u', o' + j * 3 + 2, none⟩) hu').trans b2
      clear a0 a1 a2 b0 b1 b2
      have ul : u < wr.heap.size := by omega
      have ul' : u' < wr.heap.size := by omega
      have xa' : w.heap.size < wr.heap.size := by omega
      have xb' : G' < wr.heap.size := by omega
      have hj1 : (j : Int) < (n : Int) := by omega
      subst hA hA'
      have hz : la[j] = lb[j] := by have := HE.out; subst this; rfl
      rw [← hz] at d0' d1' d2'
      have hnz := fun W => neq_same la[j] W
      generalize la[j] = z at d0 d1 d2 d0' d1' d2' hnz
      clear q1 q2 hz
      go_upto_region 6 with (fail)
      go_quiet (fail)
      have hb' := hb.trans ((below_drewN wr.heap.size wr nq).mono hsz)
      clear hb d0 d1 d2 d0' d1' d2' ka kb
      generalize wr.drewN nq = Wq at hb' ⊢
      go_wp2_with fail
      go_roundw
      case rel => exact ⟨j + 1, by omega, by go_num, hb'⟩
      case measure => simp [intOf]; omega
    · have hjn : j = n := by omega
      subst hjn
      clear ka kb
      go_wp2_with fail
      go_ret
      exact ⟨rfl, y0.trans (hb.mono y0.size)⟩
set_option maxHeartbeats 8000000 in
theorem ref8_lists_no (ak ap ae ah ac ay ad : Int) (la lb : List Lay) (n : Nat) (A A' : Option Addr) (c c' : Nat) (w : World) (h1 : RL w w.heap.size A n c la) (h2 : RL w w.heap.size A' n c' lb) (hnn : n ≤ 1000000) (he : la ≠ lb) :
    Calls Try.prog 10 #[.agg #[.int .i64 ak, .int .i64 ap, .slice A n c, .int .i64 ae, .int .i64 ah, .int .i64 ac, .int .i64 ay, .int .i64 ad], .agg #[.int .i64 ak, .int .i64 ap, .slice A' n c', .int .i64 ae, .int .i64 ah, .int .i64 ac, .int .i64 ay, .int .i64 ad]] w (Ans (.bool false) w) := by
  have ga := (Blk.new w 25 #[.int .i64 ak, .int .i64 ap, .slice A n c, .int .i64 ae, .int .i64 ah, .int .i64 ac, .int .i64 ay, .int .i64 ad]).alloc (.cells #[.int .i64 ak, .int .i64 ap, .slice A' n c', .int .i64 ae, .int .i64 ah, .int .i64 ac, .int .i64 ay, .int .i64 ad] 25)
  have gb : Blk _ (w.heap.size + 1) _ _ := (by simpa using Blk.new (w.alloc (.cells #[.int .i64 ak, .int .i64 ap, .slice A n c, .int .i64 ae, .int .i64 ah, .int .i64 ac, .int .i64 ay, .int .i64 ad] 25)) 25 #[.int .i64 ak, .int .i64 ap, .slice A' n c', .int .i64 ae, .int .i64 ah, .int .i64 ac, .int .i64 ay, .int .i64 ad])
  have y0 := (below_alloc w (.cells #[.int .i64 ak, .int .i64 ap, .slice A n c, .int .i64 ae, .int .i64 ah, .int .i64 ac, .int .i64 ay, .int .i64 ad] 25)).alloc (by simp) (.cells #[.int .i64 ak, .int .i64 ap, .slice A' n c', .int .i64 ae, .int .i64 ah, .int .i64 ac, .int .i64 ay, .int .i64 ad] 25)
  have HA := Lib.hid (h1.on y0)
  have HB := Lib.hid (h2.on y0)
  have ga := Lib.hid ga
  have gb := Lib.hid gb
  have l1 := Lib.hid h1.1
  have l2 := Lib.hid h2.1
  obtain ⟨q0, e1, e2, e3, e4⟩ := part_at (by rw [h1.1, h2.1]) he
  have hq0 : q0 < n := by rw [← h1.1]; exact e1
  have E3 := Lib.hid e3
  have E4 := Lib.hid e4
  clear e3 e4 he
  clear h1 h2
  go_enter Try.func10, Try.ntmps10
  go_wp2_with fail
  generalize (w.alloc (.cells #[.int .i64 ak, .int .i64 ap, .slice A n c, .int .i64 ae, .int .i64 ah, .int .i64 ac, .int .i64 ay, .int .i64 ad] 25)).alloc (.cells #[.int .i64 ak, .int .i64 ap, .slice A' n c', .int .i64 ae, .int .i64 ah, .int .i64 ac, .int .i64 ay, .int .i64 ad] 25) = W at *
  generalize hG1 : w.heap.size + 1 = G' at *
  have HG1 := Lib.hid hG1
  clear hG1
  go_loopw [65] (fun i wr => ∃ j : Nat, j ≤ q0 ∧ i = .int .i64 j ∧ Below W.heap.size W wr) (fun i _ => n - (intOf i).toNat)
  case atStart => exact ⟨0, Nat.zero_le _, rfl, Below.refl _ _⟩
  case round =>
    obtain ⟨j, hj, rfl, hb⟩ := hrel
    have hsz := hb.size
    have ka := (blk8 (ga.out.below hb ga.out.lt)).2.2.1
    have kb := (blk8 (gb.out.below hb gb.out.lt)).2.2.1
    have xa := ga.out.lt
    have xb := gb.out.lt
    have hlt : j < n := by omega
    have q1 : j < la.length := by rw [l1.out]; exact hlt
    have q2 : j < lb.length := by rw [l2.out]; exact hlt
    obtain ⟨u, o, hA, hu, a0, a1, a2⟩ := HA.out.at q1
    obtain ⟨u', o', hA', hu', b0, b1, b2⟩ := HB.out.at q2
    have d0 := (hb.cell (p := ⟨u, o + j * 3, none⟩) hu).trans a0
    have d1 := (hb.cell (p := ⟨u, o + j * 3 + 1, none⟩) hu).trans a1
    have d2 := (hb.cell (p := ⟨u, o + j * 3 + 2, none⟩) hu).trans a2
    have d0' := (hb.cell (p := ⟨u', o' + j * 3, none⟩) hu').trans b0
    have d1' := (hb.cell (p := ⟨u', o' + j * 3 + 1, none⟩) hu').trans b1
    have d2' := (hb.cell (p := ⟨u', o' + j * 3 + 2, none⟩) hu').trans b2
    clear a0 a1 a2 b0 b1 b2
    have ul : u < wr.heap.size := by omega
    have ul' : u' < wr.heap.size := by omega
    have xa' : w.heap.size < wr.heap.size := by omega
    have xb' : G' < wr.heap.size := by omega
    have hj1 : (j : Int) < (n : Int) := by omega
    subst hA hA'
    by_cases hjq : j < q0
    · have hz : la[j] = lb[j] := E4.out j hjq
      rw [← hz] at d0' d1' d2'
      have hnz := fun W => neq_same la[j] W
      generalize la[j] = z at d0 d1 d2 d0' d1' d2' hnz
      clear q1 q2 hz
      go_upto_region 6 with (fail)
      go_quiet (fail)
      have hb' := hb.trans ((below_drewN wr.heap.size wr nq).mono hsz)
      clear hb d0 d1 d2 d0' d1' d2' ka kb
      generalize wr.drewN nq = Wq at hb' ⊢
      go_wp2_with fail
      go_roundw
      case rel => exact ⟨j + 1, by omega, by go_num, hb'⟩
      case measure => simp [intOf]; omega
    · have hjq0 : j = q0 := by omega
      subst hjq0
      have hnz := fun W => neq_other la[j] lb[j] E3.out W
      clear E3 E4
      generalize la[j] = z at d0 d1 d2 hnz
      generalize lb[j] = z' at d0' d1' d2' hnz
      clear q1 q2 e1 e2
      go_upto_region 6 with (fail)
      go_quiet (fail)
      have hb' := hb.trans ((below_drewN wr.heap.size wr nq).mono hsz)
      clear hb d0 d1 d2 d0' d1' d2' ka kb
      generalize wr.drewN nq = Wq at hb' ⊢
      go_wp2_with fail
      go_ret
      exact ⟨rfl, y0.trans (hb'.mono y0.size)⟩
theorem ref8_same_yes (a : Ctl) (A A' : Option Addr) (c c' : Nat) (w : World) (h1 : IsC w w.heap.size a A c) (h2 : IsC w w.heap.size a A' c') (hl : a.layers.length ≤ 1000000) : Calls Try.prog 10 #[a.val A c, a.val A' c'] w (Ans (.bool true) w) :=
  ref8_lists_yes a.kind a.cap a.peer a.height a.cls a.layer a.code a.layers a.layers a.layers.length A A' c c' w h1.layers h2.layers hl rfl
theorem ref8_same_no (a b : Ctl) (A A' : Option Addr) (c c' : Nat) (w : World) (h1 : IsC w w.heap.size a A c) (h2 : IsC w w.heap.size b A' c') (hll : a.layers.length ≤ 1000000) (hne : a ≠ b) : Calls Try.prog 10 #[a.val A c, b.val A' c'] w (Ans (.bool false) w) := by
  by_cases h : a.kind ≠ b.kind ∨ a.cap ≠ b.cap ∨ a.peer ≠ b.peer ∨ a.height ≠ b.height ∨ a.cls ≠ b.cls ∨ a.layer ≠ b.layer ∨ a.code ≠ b.code ∨ a.layers.length ≠ b.layers.length
  · exact ref8_num a b A A' c c' w h
  · obtain ⟨ak, ap, al, ae, ah, ac, ay, ad⟩ := a
    obtain ⟨bk, bp, bl, be', bh, bc, by', bd⟩ := b
    have i1 := h1.layers
    have i2 := h2.layers
    simp only [not_or, ne_eq, Classical.not_not] at h i1 i2
    obtain ⟨rfl, rfl, rfl, rfl, rfl, rfl, rfl, hl⟩ := h
    have e : Ctl.val ⟨ak, ap, bl, ae, ah, ac, ay, ad⟩ A' c' = .agg #[.int .i64 ak, .int .i64 ap, .slice A' al.length c', .int .i64 ae, .int .i64 ah, .int .i64 ac, .int .i64 ay, .int .i64 ad] := by rw [hl]
    rw [e]
    rw [← hl] at i2
    exact ref8_lists_no _ _ _ _ _ _ _ al bl al.length A A' c c' w i1 i2 hll (fun e => hne (by rw [e]))
end Go.Proofs.Ytgjncaobcgjefaa
