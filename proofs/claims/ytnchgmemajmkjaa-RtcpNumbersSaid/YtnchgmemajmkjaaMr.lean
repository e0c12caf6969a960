/- Contracts: limelightref6.All (written by gen_rck.py). Contract: limelightlaw6.reads. Contract: limelightlaw6.same. -/
import Derived.Test.YtnchgmemajmkjaaRcS
import Derived.Test.YtnchgmemajmkjaaMd
import Derived.Test.YtnchgmemajmkjaaRegP
import Derived.Test.YtnchgmemajmkjaaPcR
import Derived.Test.YtnchgmemajmkjaaPcA
import Derived.Test.YtnchgmemajmkjaaMi
import Derived.Test.YtnchgmemajmkjaaPcC
namespace Go.Proofs.Ytnchgmemajmkjaa.RP
open Go.RowKit
set_option linter.unusedVariables false
set_option linter.unusedSimpArgs false
set_option maxRecDepth 20000

set_option maxHeartbeats 2000000 in
theorem ref6_All (A : Option Addr) (n c : Nat) (l : List Rv) (A' : Option Addr) (n' c' : Nat) (m : List Rv) (w : World) (h : RR w w.heap.size A n c l) (h' : RR w w.heap.size A' n' c' m) (hn : n ≤ 140737488355328) (hn' : n' ≤ 140737488355328) :
    Calls Try.prog 21 #[.slice A n c, .slice A' n' c'] w (AnsW (.bool (decide (l.map Rv.r = m.map Rv.r))) w) := by
  have hl := h.1
  have hm := h'.1
  by_cases hnn : n = n'
  rotate_left
  · have e : decide (l.map Rv.r = m.map Rv.r) = false := by
      simp only [decide_eq_false_iff_not]
      intro e
      have := congrArg List.length e
      simp only [List.length_map] at this
      omega
    rw [e]
    have g : ((n : Int) != (n' : Int)) = true := by simp; omega
    clear e hnn hl hm h h'
    go_enter Try.func21, Try.ntmps21
    go_wp2_with fail
    go_ret
    exact ⟨rfl, Below.refl _ _⟩
  subst hnn
  have HL := Lib.hid hl
  have HM := Lib.hid hm
  clear hl hm
  go_enter Try.func21, Try.ntmps21
  go_wp2_with fail
  go_loopw [5, 13] (fun _ i wr => ∃ q : Nat, q ≤ n ∧ i = .int .i64 (q : Int) ∧ (l.map Rv.r).take q = (m.map Rv.r).take q ∧ Below w.heap.size w wr) (fun _ i _ => n - (intOf i).toNat)
  case atStart => exact ⟨0, by omega, rfl, by simp, Below.refl _ _⟩
  case round =>
    obtain ⟨q, hq, rfl, htk, hbr⟩ := hrel
    have HT := Lib.hid htk
    clear htk
    by_cases hlt : q < n
    · have g3 : decide ((q : Int) < (n : Int)) = true := by simp; omega
      have g4 : (q : Int) < (n : Int) := by omega
      have hql : q < l.length := by rw [HL.out]; exact hlt
      have hqm : q < m.length := by rw [HM.out]; exact hlt
      obtain ⟨b, off, rfl, hbl, k0, k1, k2, k3, k4, k5, k6, k7, k8, k9⟩ := h.at hql
      obtain ⟨b', off', rfl, hbl', r0, r1, r2, r3, r4, r5, r6, r7, r8, r9⟩ := h'.at hqm
      have c0 := (hbr.cell (p := ⟨b, off + q * 10, none⟩) hbl).trans k0
      have c1 := (hbr.cell (p := ⟨b, off + q * 10 + 1, none⟩) hbl).trans k1
      have c2 := (hbr.cell (p := ⟨b, off + q * 10 + 2, none⟩) hbl).trans k2
      have c3 := (hbr.cell (p := ⟨b, off + q * 10 + 3, none⟩) hbl).trans k3
      have c4 := (hbr.cell (p := ⟨b, off + q * 10 + 4, none⟩) hbl).trans k4
      have c5 := (hbr.cell (p := ⟨b, off + q * 10 + 5, none⟩) hbl).trans k5
      have c6 := (hbr.cell (p := ⟨b, off + q * 10 + 6, none⟩) hbl).trans k6
      have c7 := (hbr.cell (p := ⟨b, off + q * 10 + 7, none⟩) hbl).trans k7
      have c8 := (hbr.cell (p := ⟨b, off + q * 10 + 8, none⟩) hbl).trans k8
      have c9 := (hbr.cell (p := ⟨b, off + q * 10 + 9, none⟩) hbl).trans k9
      have d0 := (hbr.cell (p := ⟨b', off' + q * 10, none⟩) hbl').trans r0
      have d1 := (hbr.cell (p := ⟨b', off' + q * 10 + 1, none⟩) hbl').trans r1
      have d2 := (hbr.cell (p := ⟨b', off' + q * 10 + 2, none⟩) hbl').trans r2
      have d3 := (hbr.cell (p := ⟨b', off' + q * 10 + 3, none⟩) hbl').trans r3
      have d4 := (hbr.cell (p := ⟨b', off' + q * 10 + 4, none⟩) hbl').trans r4
      have d5 := (hbr.cell (p := ⟨b', off' + q * 10 + 5, none⟩) hbl').trans r5
      have d6 := (hbr.cell (p := ⟨b', off' + q * 10 + 6, none⟩) hbl').trans r6
      have d7 := (hbr.cell (p := ⟨b', off' + q * 10 + 7, none⟩) hbl').trans r7
      have d8 := (hbr.cell (p := ⟨b', off' + q * 10 + 8, none⟩) hbl').trans r8
      have d9 := (hbr.cell (p := ⟨b', off' + q * 10 + 9, none⟩) hbl').trans r9
      have hbw := Nat.lt_of_lt_of_le hbl hbr.size
      have hbw' := Nat.lt_of_lt_of_le hbl' hbr.size
      have hp1 := (h.2.1 _ (List.getElem_mem hql)).on hbr
      have hp2 := (h'.2.1 _ (List.getElem_mem hqm)).on hbr
      have hst : l[q].r = m[q].r → (l.map Rv.r).take (q + 1) = (m.map Rv.r).take (q + 1) := fun e => by
        have h1 := HT.out
        rw [List.take_add_one, List.take_add_one, h1, List.getElem?_map, List.getElem?_map, List.getElem?_eq_getElem hql, List.getElem?_eq_getElem hqm]
        simp [e]
      have hne : l[q].r ≠ m[q].r → l.map Rv.r ≠ m.map Rv.r := fun hx e => hx (by
        have h1 := congrArg (fun z => z[q]?) e
        simp only [List.getElem?_map, List.getElem?_eq_getElem hql, List.getElem?_eq_getElem hqm, Option.map_some, Option.some.injEq] at h1
        exact h1)
      have HS := Lib.hid hst
      have HN := Lib.hid hne
      clear hst hne k0 k1 k2 k3 k4 k5 k6 k7 k8 k9 r0 r1 r2 r3 r4 r5 r6 r7 r8 r9
      generalize l[q] = x at *
      generalize m[q] = y at *
      have hS := fun Z (hX : IsR Z Z.heap.size x) (hY : IsR Z Z.heap.size y) => ref6_Same x y Z hX hY
      simp only [Rv.val, Rv.cells] at hS
      generalize hXY : decide (x.r = y.r) = B at hS
      have HXY := Lib.hid hXY
      clear hXY hql hqm
      go_upto_region 6 with (fail)
      cases B with
      | false =>
        refine wp_region_tbl [.val (.slice (some ⟨b, off, none⟩) n c), .val (.int .i64 (q : Int)), .val (.pointer (some ⟨b, off + q * 10, none⟩)), .val (.agg #[.int .i64 x.r.kind, .int .u32 (x.r.src : Int), .int .u32 (x.r.about : Int), .slice x.At x.r.tups.length x.ct, .slice x.Aa x.r.abouts.length x.ca, .slice x.An x.r.nums.length x.cn, .int .u64 (x.r.rate : Int), .int .i64 x.r.ty, .int .i64 x.r.count, .slice x.Ab x.r.body.length x.cb]), .val (.slice (some ⟨b', off', none⟩) n c'), .val (.int .i64 (q : Int)), .val (.pointer (some ⟨b', off' + q * 10, none⟩)), .val (.agg #[.int .i64 y.r.kind, .int .u32 (y.r.src : Int), .int .u32 (y.r.about : Int), .slice y.At y.r.tups.length y.ct, .slice y.Aa y.r.abouts.length y.ca, .slice y.An y.r.nums.length y.cn, .int .u64 (y.r.rate : Int), .int .i64 y.r.ty, .int .i64 y.r.count, .slice y.Ab y.r.body.length y.cb]), .val (.bool false), .val (.bool true)] (by kernel_rfl) (by kernel_rfl) (by kernel_rfl) (AllObl.all ⟨?_, ?_, ?_, ?_, ?_, ?_, ?_, ?_, ?_, ?_, trivial⟩) ?_
        · exact Obl.move trivial _ (Or.inl rfl) (by kernel_rfl)
        · exact Obl.move trivial _ (Or.inl rfl) (by kernel_rfl)
        · exact Obl.pure trivial (.pointer (some ⟨b, off + q * 10, none⟩)) (by kernel_rfl) (fun ev w hb hx => by
            have e16 : ev (.tmp 16) = .slice (some ⟨b, off, none⟩) n c := holds_val (hx (.tmp 16)) (by kernel_rfl)
            have e17 : ev (.tmp 17) = .int .i64 (q : Int) := holds_val (hx (.tmp 17)) (by kernel_rfl)
            (simp [execOp, e16, e17, go_sem, g4, hlt]))
        · exact Obl.pure trivial (.agg #[.int .i64 x.r.kind, .int .u32 (x.r.src : Int), .int .u32 (x.r.about : Int), .slice x.At x.r.tups.length x.ct, .slice x.Aa x.r.abouts.length x.ca, .slice x.An x.r.nums.length x.cn, .int .u64 (x.r.rate : Int), .int .i64 x.r.ty, .int .i64 x.r.count, .slice x.Ab x.r.body.length x.cb]) (by kernel_rfl) (fun ev w hb hx => by
            have e18 : ev (.tmp 18) = .pointer (some ⟨b, off + q * 10, none⟩) := holds_val (hx (.tmp 18)) (by kernel_rfl)
            (have m0 := (((drew_below _).trans hb).cell (p := ⟨b, off + q * 10, none⟩) hbw).trans c0; have m1 := (((drew_below _).trans hb).cell (p := ⟨b, off + q * 10 + 1, none⟩) hbw).trans c1; have m2 := (((drew_below _).trans hb).cell (p := ⟨b, off + q * 10 + 2, none⟩) hbw).trans c2; have m3 := (((drew_below _).trans hb).cell (p := ⟨b, off + q * 10 + 3, none⟩) hbw).trans c3; have m4 := (((drew_below _).trans hb).cell (p := ⟨b, off + q * 10 + 4, none⟩) hbw).trans c4; have m5 := (((drew_below _).trans hb).cell (p := ⟨b, off + q * 10 + 5, none⟩) hbw).trans c5; have m6 := (((drew_below _).trans hb).cell (p := ⟨b, off + q * 10 + 6, none⟩) hbw).trans c6; have m7 := (((drew_below _).trans hb).cell (p := ⟨b, off + q * 10 + 7, none⟩) hbw).trans c7; have m8 := (((drew_below _).trans hb).cell (p := ⟨b, off + q * 10 + 8, none⟩) hbw).trans c8; have m9 := (((drew_below _).trans hb).cell (p := ⟨b, off + q * 10 + 9, none⟩) hbw).trans c9; simp [execOp, e18, go_sem, m0, m1, m2, m3, m4, m5, m6, m7, m8, m9]))
        · exact Obl.move trivial _ (Or.inl rfl) (by kernel_rfl)
        · exact Obl.move trivial _ (Or.inl rfl) (by kernel_rfl)
        · exact Obl.pure trivial (.pointer (some ⟨b', off' + q * 10, none⟩)) (by kernel_rfl) (fun ev w hb hx => by
            have e20 : ev (.tmp 20) = .slice (some ⟨b', off', none⟩) n c' := holds_val (hx (.tmp 20)) (by kernel_rfl)
            have e21 : ev (.tmp 21) = .int .i64 (q : Int) := holds_val (hx (.tmp 21)) (by kernel_rfl)
            (simp [execOp, e20, e21, go_sem, g4, hlt]))
        · exact Obl.pure trivial (.agg #[.int .i64 y.r.kind, .int .u32 (y.r.src : Int), .int .u32 (y.r.about : Int), .slice y.At y.r.tups.length y.ct, .slice y.Aa y.r.abouts.length y.ca, .slice y.An y.r.nums.length y.cn, .int .u64 (y.r.rate : Int), .int .i64 y.r.ty, .int .i64 y.r.count, .slice y.Ab y.r.body.length y.cb]) (by kernel_rfl) (fun ev w hb hx => by
            have e22 : ev (.tmp 22) = .pointer (some ⟨b', off' + q * 10, none⟩) := holds_val (hx (.tmp 22)) (by kernel_rfl)
            (have m0 := (((drew_below _).trans hb).cell (p := ⟨b', off' + q * 10, none⟩) hbw').trans d0; have m1 := (((drew_below _).trans hb).cell (p := ⟨b', off' + q * 10 + 1, none⟩) hbw').trans d1; have m2 := (((drew_below _).trans hb).cell (p := ⟨b', off' + q * 10 + 2, none⟩) hbw').trans d2; have m3 := (((drew_below _).trans hb).cell (p := ⟨b', off' + q * 10 + 3, none⟩) hbw').trans d3; have m4 := (((drew_below _).trans hb).cell (p := ⟨b', off' + q * 10 + 4, none⟩) hbw').trans d4; have m5 := (((drew_below _).trans hb).cell (p := ⟨b', off' + q * 10 + 5, none⟩) hbw').trans d5; have m6 := (((drew_below _).trans hb).cell (p := ⟨b', off' + q * 10 + 6, none⟩) hbw').trans d6; have m7 := (((drew_below _).trans hb).cell (p := ⟨b', off' + q * 10 + 7, none⟩) hbw').trans d7; have m8 := (((drew_below _).trans hb).cell (p := ⟨b', off' + q * 10 + 8, none⟩) hbw').trans d8; have m9 := (((drew_below _).trans hb).cell (p := ⟨b', off' + q * 10 + 9, none⟩) hbw').trans d9; simp [execOp, e22, go_sem, m0, m1, m2, m3, m4, m5, m6, m7, m8, m9]))
        · exact Obl.call trivial 18 #[.tmp 19, .tmp 23] _ rfl Try.f18 Try.func18 (by kernel_rfl) (by kernel_rfl) (fun ev w hb hx => by
            have e19 : ev (.tmp 19) = .agg #[.int .i64 x.r.kind, .int .u32 (x.r.src : Int), .int .u32 (x.r.about : Int), .slice x.At x.r.tups.length x.ct, .slice x.Aa x.r.abouts.length x.ca, .slice x.An x.r.nums.length x.cn, .int .u64 (x.r.rate : Int), .int .i64 x.r.ty, .int .i64 x.r.count, .slice x.Ab x.r.body.length x.cb] := holds_val (hx (.tmp 19)) (by kernel_rfl)
            have e23 : ev (.tmp 23) = .agg #[.int .i64 y.r.kind, .int .u32 (y.r.src : Int), .int .u32 (y.r.about : Int), .slice y.At y.r.tups.length y.ct, .slice y.Aa y.r.abouts.length y.ca, .slice y.An y.r.nums.length y.cn, .int .u64 (y.r.rate : Int), .int .i64 y.r.ty, .int .i64 y.r.count, .slice y.Ab y.r.body.length y.cb] := holds_val (hx (.tmp 23)) (by kernel_rfl)
            simp only [List.map_toArray, List.map_cons, List.map_nil, e19, e23]
            exact (hS _ (hp1.on ((drew_below _).trans hb)) (hp2.on ((drew_below _).trans hb))).mono fun _ _ hh => Val.holds (by kernel_rfl) hh)
        · exact Obl.un trivial .not _ (.tmp 24) rfl (.bool false) (.bool true) (by kernel_rfl) (fun w => by simp [go_sem]) (by kernel_rfl)
        intro a WR hb hsz hdf hold hv
        have ha := act_puts [16, 17, 18, 19, 20, 21, 22, 23, 24, 25] (by kernel_rfl) hsz hdf hold
        simp only [putAll] at ha
        have z25 : a.tmps.getD 25 undef = .bool true := holds_val (hv 9 25 (by kernel_rfl)) (by kernel_rfl)
        rw [z25] at ha
        generalize a.tmps.getD 16 undef = x16 at ha
        generalize a.tmps.getD 17 undef = x17 at ha
        generalize a.tmps.getD 18 undef = x18 at ha
        generalize a.tmps.getD 19 undef = x19 at ha
        generalize a.tmps.getD 20 undef = x20 at ha
        generalize a.tmps.getD 21 undef = x21 at ha
        generalize a.tmps.getD 22 undef = x22 at ha
        generalize a.tmps.getD 23 undef = x23 at ha
        generalize a.tmps.getD 24 undef = x24 at ha
        clear hv hold hsz hdf z25
        subst ha
        simp only [Act.put, List.setIfInBounds_toArray, List.set_cons_succ, List.set_cons_zero]
        have bw3 := hbr.trans (((drew_below _).trans hb).mono hbr.size)
        clear hb c0 c1 c2 c3 c4 c5 c6 c7 c8 c9 d0 d1 d2 d3 d4 d5 d6 d7 d8 d9 hS hp1 hp2 h h' hbr
        have e : decide (l.map Rv.r = m.map Rv.r) = false := by
          have h1 := HXY.out
          simp only [decide_eq_false_iff_not] at h1 ⊢
          exact HN.out h1
        have HE := Lib.hid e
        clear e
        go_wp2_with fail
        go_ret
        rw [HE.out]
        exact ⟨rfl, bw3⟩
      | true =>
        refine wp_region_tbl [.val (.slice (some ⟨b, off, none⟩) n c), .val (.int .i64 (q : Int)), .val (.pointer (some ⟨b, off + q * 10, none⟩)), .val (.agg #[.int .i64 x.r.kind, .int .u32 (x.r.src : Int), .int .u32 (x.r.about : Int), .slice x.At x.r.tups.length x.ct, .slice x.Aa x.r.abouts.length x.ca, .slice x.An x.r.nums.length x.cn, .int .u64 (x.r.rate : Int), .int .i64 x.r.ty, .int .i64 x.r.count, .slice x.Ab x.r.body.length x.cb]), .val (.slice (some ⟨b', off', none⟩) n c'), .val (.int .i64 (q : Int)), .val (.pointer (some ⟨b', off' + q * 10, none⟩)), .val (.agg #[.int .i64 y.r.kind, .int .u32 (y.r.src : Int), .int .u32 (y.r.about : Int), .slice y.At y.r.tups.length y.ct, .slice y.Aa y.r.abouts.length y.ca, .slice y.An y.r.nums.length y.cn, .int .u64 (y.r.rate : Int), .int .i64 y.r.ty, .int .i64 y.r.count, .slice y.Ab y.r.body.length y.cb]), .val (.bool true), .val (.bool false)] (by kernel_rfl) (by kernel_rfl) (by kernel_rfl) (AllObl.all ⟨?_, ?_, ?_, ?_, ?_, ?_, ?_, ?_, ?_, ?_, trivial⟩) ?_
        · exact Obl.move trivial _ (Or.inl rfl) (by kernel_rfl)
        · exact Obl.move trivial _ (Or.inl rfl) (by kernel_rfl)
        · exact Obl.pure trivial (.pointer (some ⟨b, off + q * 10, none⟩)) (by kernel_rfl) (fun ev w hb hx => by
            have e16 : ev (.tmp 16) = .slice (some ⟨b, off, none⟩) n c := holds_val (hx (.tmp 16)) (by kernel_rfl)
            have e17 : ev (.tmp 17) = .int .i64 (q : Int) := holds_val (hx (.tmp 17)) (by kernel_rfl)
            (simp [execOp, e16, e17, go_sem, g4, hlt]))
        · exact Obl.pure trivial (.agg #[.int .i64 x.r.kind, .int .u32 (x.r.src : Int), .int .u32 (x.r.about : Int), .slice x.At x.r.tups.length x.ct, .slice x.Aa x.r.abouts.length x.ca, .slice x.An x.r.nums.length x.cn, .int .u64 (x.r.rate : Int), .int .i64 x.r.ty, .int .i64 x.r.count, .slice x.Ab x.r.body.length x.cb]) (by kernel_rfl) (fun ev w hb hx => by
            have e18 : ev (.tmp 18) = .pointer (some ⟨b, off + q * 10, none⟩) := holds_val (hx (.tmp 18)) (by kernel_rfl)
            (have m0 := (((drew_below _).trans hb).cell (p := ⟨b, off + q * 10, none⟩) hbw).trans c0; have m1 := (((drew_below _).trans hb).cell (p := ⟨b, off + q * 10 + 1, none⟩) hbw).trans c1; have m2 := (((drew_below _).trans hb).cell (p := ⟨b, off + q * 10 + 2, none⟩) hbw).trans c2; have m3 := (((drew_below _).trans hb).cell (p := ⟨b, off + q * 10 + 3, none⟩) hbw).trans c3; have m4 := (((drew_below _).trans hb).cell (p := ⟨b, off + q * 10 + 4, none⟩) hbw).trans c4; have m5 := (((drew_below _).trans hb).cell (p := ⟨b, off + q * 10 + 5, none⟩) hbw).trans c5; have m6 := (((drew_below _).trans hb).cell (p := ⟨b, off + q * 10 + 6, none⟩) hbw).trans c6; have m7 := (((drew_below _).trans hb).cell (p := ⟨b, off + q * 10 + 7, none⟩) hbw).trans c7; have m8 := (((drew_below _).trans hb).cell (p := ⟨b, off + q * 10 + 8, none⟩) hbw).trans c8; have m9 := (((drew_below _).trans hb).cell (p := ⟨b, off + q * 10 + 9, none⟩) hbw).trans c9; simp [execOp, e18, go_sem, m0, m1, m2, m3, m4, m5, m6, m7, m8, m9]))
        · exact Obl.move trivial _ (Or.inl rfl) (by kernel_rfl)
        · exact Obl.move trivial _ (Or.inl rfl) (by kernel_rfl)
        · exact Obl.pure trivial (.pointer (some ⟨b', off' + q * 10, none⟩)) (by kernel_rfl) (fun ev w hb hx => by
            have e20 : ev (.tmp 20) = .slice (some ⟨b', off', none⟩) n c' := holds_val (hx (.tmp 20)) (by kernel_rfl)
            have e21 : ev (.tmp 21) = .int .i64 (q : Int) := holds_val (hx (.tmp 21)) (by kernel_rfl)
            (simp [execOp, e20, e21, go_sem, g4, hlt]))
        · exact Obl.pure trivial (.agg #[.int .i64 y.r.kind, .int .u32 (y.r.src : Int), .int .u32 (y.r.about : Int), .slice y.At y.r.tups.length y.ct, .slice y.Aa y.r.abouts.length y.ca, .slice y.An y.r.nums.length y.cn, .int .u64 (y.r.rate : Int), .int .i64 y.r.ty, .int .i64 y.r.count, .slice y.Ab y.r.body.length y.cb]) (by kernel_rfl) (fun ev w hb hx => by
            have e22 : ev (.tmp 22) = .pointer (some ⟨b', off' + q * 10, none⟩) := holds_val (hx (.tmp 22)) (by kernel_rfl)
            (have m0 := (((drew_below _).trans hb).cell (p := ⟨b', off' + q * 10, none⟩) hbw').trans d0; have m1 := (((drew_below _).trans hb).cell (p := ⟨b', off' + q * 10 + 1, none⟩) hbw').trans d1; have m2 := (((drew_below _).trans hb).cell (p := ⟨b', off' + q * 10 + 2, none⟩) hbw').trans d2; have m3 := (((drew_below _).trans hb).cell (p := ⟨b', off' + q * 10 + 3, none⟩) hbw').trans d3; have m4 := (((drew_below _).trans hb).cell (p := ⟨b', off' + q * 10 + 4, none⟩) hbw').trans d4; have m5 := (((drew_below _).trans hb).cell (p := ⟨b', off' + q * 10 + 5, none⟩) hbw').trans d5; have m6 := (((drew_below _).trans hb).cell (p := ⟨b', off' + q * 10 + 6, none⟩) hbw').trans d6; have m7 := (((drew_below _).trans hb).cell (p := ⟨b', off' + q * 10 + 7, none⟩) hbw').trans d7; have m8 := (((drew_below _).trans hb).cell (p := ⟨b', off' + q * 10 + 8, none⟩) hbw').trans d8; have m9 := (((drew_below _).trans hb).cell (p := ⟨b', off' + q * 10 + 9, none⟩) hbw').trans d9; simp [execOp, e22, go_sem, m0, m1, m2, m3, m4, m5, m6, m7, m8, m9]))
        · exact Obl.call trivial 18 #[.tmp 19, .tmp 23] _ rfl Try.f18 Try.func18 (by kernel_rfl) (by kernel_rfl) (fun ev w hb hx => by
            have e19 : ev (.tmp 19) = .agg #[.int .i64 x.r.kind, .int .u32 (x.r.src : Int), .int .u32 (x.r.about : Int), .slice x.At x.r.tups.length x.ct, .slice x.Aa x.r.abouts.length x.ca, .slice x.An x.r.nums.length x.cn, .int .u64 (x.r.rate : Int), .int .i64 x.r.ty, .int .i64 x.r.count, .slice x.Ab x.r.body.length x.cb] := holds_val (hx (.tmp 19)) (by kernel_rfl)
            have e23 : ev (.tmp 23) = .agg #[.int .i64 y.r.kind, .int .u32 (y.r.src : Int), .int .u32 (y.r.about : Int), .slice y.At y.r.tups.length y.ct, .slice y.Aa y.r.abouts.length y.ca, .slice y.An y.r.nums.length y.cn, .int .u64 (y.r.rate : Int), .int .i64 y.r.ty, .int .i64 y.r.count, .slice y.Ab y.r.body.length y.cb] := holds_val (hx (.tmp 23)) (by kernel_rfl)
            simp only [List.map_toArray, List.map_cons, List.map_nil, e19, e23]
            exact (hS _ (hp1.on ((drew_below _).trans hb)) (hp2.on ((drew_below _).trans hb))).mono fun _ _ hh => Val.holds (by kernel_rfl) hh)
        · exact Obl.un trivial .not _ (.tmp 24) rfl (.bool true) (.bool false) (by kernel_rfl) (fun w => by simp [go_sem]) (by kernel_rfl)
        intro a WR hb hsz hdf hold hv
        have ha := act_puts [16, 17, 18, 19, 20, 21, 22, 23, 24, 25] (by kernel_rfl) hsz hdf hold
        simp only [putAll] at ha
        have z25 : a.tmps.getD 25 undef = .bool false := holds_val (hv 9 25 (by kernel_rfl)) (by kernel_rfl)
        rw [z25] at ha
        generalize a.tmps.getD 16 undef = x16 at ha
        generalize a.tmps.getD 17 undef = x17 at ha
        generalize a.tmps.getD 18 undef = x18 at ha
        generalize a.tmps.getD 19 undef = x19 at ha
        generalize a.tmps.getD 20 undef = x20 at ha
        generalize a.tmps.getD 21 undef = x21 at ha
        generalize a.tmps.getD 22 undef = x22 at ha
        generalize a.tmps.getD 23 undef = x23 at ha
        generalize a.tmps.getD 24 undef = x24 at ha
        clear hv hold hsz hdf z25
        subst ha
        simp only [Act.put, List.setIfInBounds_toArray, List.set_cons_succ, List.set_cons_zero]
        have bw3 := hbr.trans (((drew_below _).trans hb).mono hbr.size)
        clear hb c0 c1 c2 c3 c4 c5 c6 c7 c8 c9 d0 d1 d2 d3 d4 d5 d6 d7 d8 d9 hS hp1 hp2 h h' hbr
        have e : x.r = y.r := by simpa using HXY.out
        have HE := Lib.hid e
        clear e
        go_wp2_with fail
        go_roundw
        case rel => exact ⟨q + 1, by omega, by go_num, HS.out HE.out, bw3⟩
        case measure => simp [intOf]; omega
    · have g3 : decide ((q : Int) < (n : Int)) = false := by simp; omega
      have e : decide (l.map Rv.r = m.map Rv.r) = true := by
        have h1 := HT.out
        rw [List.take_of_length_le (by rw [List.length_map, HL.out]; omega), List.take_of_length_le (by rw [List.length_map, HM.out]; omega)] at h1
        simp only [decide_eq_true_eq]
        exact h1
      have HE := Lib.hid e
      clear e h h'
      go_wp2_with fail
      go_ret
      rw [HE.out]
      exact ⟨rfl, hbr⟩
end Go.Proofs.Ytnchgmemajmkjaa.RP
namespace Go.Proofs.Ytnchgmemajmkjaa.RP
open Go.RowKit
set_option linter.unusedVariables false
set_option linter.unusedSimpArgs false
set_option maxRecDepth 20000

theorem law6_reads (A : Option Addr) (n c : Nat) (b : List UInt8) (w : World) (h : R8 w w.heap.size A n c b) (hn : n ≤ 140737488355328) :
    Calls Try.prog 14 #[.slice A n c] w (Yes w) := by
  have q1 := rtcp_read A n c b w h hn
  have q2 := fun W hW => ref6_read A n c b W (h.on hW) hn
  have q3 := fun W hW => rtcp_is A n c b W (h.on hW)
  have q4 := fun W hW => ref6_is A n c b W (h.on hW)
  unfold RdOut at q1 q2
  generalize rdReps b = X at q1 q2
  generalize isB b = Y at q3 q4
  clear h
  go_enter Try.func14, Try.ntmps14
  go_wp2_with fail
  refine q1.mono ?_
  rintro e w1 ⟨A1, n1, c1, L1, rfl, hL1, hr1, hn1, b1⟩
  clear q1
  go_wp2_with fail
  refine (q2 _ b1).mono ?_
  rintro e w2 ⟨A2, n2, c2, L2, rfl, hL2, hr2, hn2, b2⟩
  clear q2
  replace hr1 := hr1.on b2
  replace b2 := b1.trans (b2.mono b1.size)
  have q5 := fun W hW => ref6_All A1 n1 c1 L1 A2 n2 c2 L2 W (hr1.on hW) (hr2.on hW) (by omega) (by omega)
  rw [decide_eq_true (hL1.trans hL2.symm)] at q5
  clear b1 hr1 hr2 hL1 hL2
  go_wp2_with fail
  refine (q5 _ (by first | exact Below.refl _ _ | exact drew_below _)).mono ?_
  rintro e w3 ⟨rfl, b3⟩
  replace b3 := b2.trans (b3.mono b2.size)
  clear q5 b2
  go_wp2_with fail
  refine (q3 _ b3).mono ?_
  rintro e w4 ⟨rfl, rfl⟩
  go_wp2_with fail
  refine (q4 _ b3).mono ?_
  rintro e w5 ⟨rfl, rfl⟩
  clear q3 q4
  go_wp2_with fail
  go_ret
  exact ⟨by simp, b3⟩
end Go.Proofs.Ytnchgmemajmkjaa.RP
namespace Go.Proofs.Ytnchgmemajmkjaa.RP
open Go.RowKit
set_option linter.unusedVariables false
set_option linter.unusedSimpArgs false
set_option maxRecDepth 20000

def AllOut (w : World) (l : List Rep) (e : Ending) (w' : World) : Prop := ∃ A n c, e = .returned (.tuple #[.slice A n c, .int .i64 (repsErr l)]) ∧ R8 w' w'.heap.size A n c (repsB l) ∧ Below w.heap.size w w'
theorem RqOut.all {w w' : World} {l : List Rep} {e : Ending} (h : RqOut w l e w') : AllOut w l e w' := by
  by_cases h0 : repsErr l = 0
  · obtain ⟨A, n, c, h1, h2, h3⟩ := h.1 h0
    exact ⟨A, n, c, by rw [h0]; exact h1, by unfold repsB; rw [if_pos h0]; exact h2, h3⟩
  · obtain ⟨h1, h2⟩ := h.2 h0
    exact ⟨none, 0, 0, h1, by unfold repsB; rw [if_neg h0]; exact R8.nil _ _ _ _, h2⟩
theorem RbOut.all {w w' : World} {l : List Rep} {e : Ending} (h : RbOut w l e w') : AllOut w l e w' := by
  by_cases h0 : repsErr l = 0
  · obtain ⟨v, h1, h2, h3⟩ := h.1 h0
    obtain ⟨A, c, rfl, h4⟩ := h2.r8
    exact ⟨A, _, c, by rw [h0]; exact h1, by unfold repsB; rw [if_pos h0]; exact h4, h3⟩
  · obtain ⟨h1, h2⟩ := h.2 h0
    exact ⟨none, 0, 0, h1, by unfold repsB; rw [if_neg h0]; exact R8.nil _ _ _ _, h2⟩
theorem repsErr_len {l : List Rep} (h : repsErr l = 0) : (onesB l).length ≤ 1500 := by
  unfold repsErr at h
  split at h
  · omega
  · split at h
    · rename_i r hr
      have := List.find?_some hr
      simp [h] at this
    · split at h
      · omega
      · omega
theorem repsB_len (l : List Rep) : (repsB l).length ≤ 1500 := by
  unfold repsB
  split
  · exact repsErr_len (by assumption)
  · simp
set_option maxHeartbeats 2000000 in
theorem law6_same (A : Option Addr) (n c : Nat) (L : List Rv) (w : World) (h : RR w w.heap.size A n c L) (hn : n ≤ 1000) :
    Calls Try.prog 11 #[.slice A n c] w (Yes w) := by
  have HL := Lib.hid h.1
  have q1 := (rtcp_bytes A n c L w h hn).mono fun e w' hh => RqOut.all hh
  have q2 := fun W hW => (ref6_bytes A n c L W (h.on hW) hn).mono fun e w' hh => RbOut.all hh
  unfold AllOut at q1 q2
  have hB15 := Lib.hid (repsB_len (L.map Rv.r))
  generalize repsErr (L.map Rv.r) = E at q1 q2
  generalize repsB (L.map Rv.r) = B at q1 q2 hB15
  go_enter Try.func11, Try.ntmps11
  go_wp2_with fail
  refine q1.mono ?_
  rintro e w1 ⟨A1, n1, c1, rfl, r1, b1⟩
  clear q1
  go_wp2_with fail
  refine (q2 _ b1).mono ?_
  rintro e w2 ⟨A2, n2, c2, rfl, r2, b2⟩
  clear q2
  replace r1 := r1.on b2
  replace b2 := b1.trans (b2.mono b1.size)
  replace h := h.on b2
  clear b1
  go_wp2_with fail
  go_loopw [8, 21] (fun _ i wr => ∃ q : Nat, q ≤ n ∧ i = .int .i64 (q : Int) ∧ Below w2.heap.size w2 wr) (fun _ i _ => n - (intOf i).toNat)
  case atStart => exact ⟨0, by omega, rfl, Below.refl _ _⟩
  case round =>
    obtain ⟨q, hq, rfl, hbr⟩ := hrel
    by_cases hlt : q < n
    · have g3 : decide ((q : Int) < (n : Int)) = true := by simp; omega
      have hql : q < L.length := by rw [HL.out]; exact hlt
      obtain ⟨b, off, rfl, hbl, k0, k1, k2, k3, k4, k5, k6, k7, k8, k9⟩ := h.at hql
      have c0 := (hbr.cell (p := ⟨b, off + q * 10, none⟩) hbl).trans k0
      have c1 := (hbr.cell (p := ⟨b, off + q * 10 + 1, none⟩) hbl).trans k1
      have c2 := (hbr.cell (p := ⟨b, off + q * 10 + 2, none⟩) hbl).trans k2
      have c3 := (hbr.cell (p := ⟨b, off + q * 10 + 3, none⟩) hbl).trans k3
      have c4 := (hbr.cell (p := ⟨b, off + q * 10 + 4, none⟩) hbl).trans k4
      have c5 := (hbr.cell (p := ⟨b, off + q * 10 + 5, none⟩) hbl).trans k5
      have c6 := (hbr.cell (p := ⟨b, off + q * 10 + 6, none⟩) hbl).trans k6
      have c7 := (hbr.cell (p := ⟨b, off + q * 10 + 7, none⟩) hbl).trans k7
      have c8 := (hbr.cell (p := ⟨b, off + q * 10 + 8, none⟩) hbl).trans k8
      have c9 := (hbr.cell (p := ⟨b, off + q * 10 + 9, none⟩) hbl).trans k9
      have hrx := (h.2.1 _ (List.getElem_mem hql)).on hbr
      clear k0 k1 k2 k3 k4 k5 k6 k7 k8 k9 h
      generalize L[q] = x at c0 c1 c2 c3 c4 c5 c6 c7 c8 c9 hrx
      obtain ⟨r, At, ct, Aa, ca, An, cn, Ab, cb⟩ := x
      have hr1 := fun W h => rtcp_Right ⟨r, At, ct, Aa, ca, An, cn, Ab, cb⟩ W h
      have hr2 := fun W h => ref6_right ⟨r, At, ct, Aa, ca, An, cn, Ab, cb⟩ W h
      have hrs := fun W h => rtcp_Same ⟨r, At, ct, Aa, ca, An, cn, Ab, cb⟩ ⟨r, At, ct, Aa, ca, An, cn, Ab, cb⟩ W h h
      rw [decide_eq_true (rfl : r = r)] at hrs
      simp only [Rv.val, Rv.cells] at hr1 hr2 hrs c0 c1 c2 c3 c4 c5 c6 c7 c8 c9
      generalize r.err = er at hr1 hr2
      have hB := Blk.new wr 33 #[.int .i64 r.kind, .int .u32 (r.src : Int), .int .u32 (r.about : Int), .slice At r.tups.length ct, .slice Aa r.abouts.length ca, .slice An r.nums.length cn, .int .u64 (r.rate : Int), .int .i64 r.ty, .int .i64 r.count, .slice Ab r.body.length cb]
      have hal := (Below.refl wr.heap.size wr).alloc (Nat.le_refl _) (.cells #[.int .i64 r.kind, .int .u32 (r.src : Int), .int .u32 (r.about : Int), .slice At r.tups.length ct, .slice Aa r.abouts.length ca, .slice An r.nums.length cn, .int .u64 (r.rate : Int), .int .i64 r.ty, .int .i64 r.count, .slice Ab r.body.length cb] 33)
      replace hrx := hrx.on hal
      replace hal := hbr.trans (hal.mono hbr.size)
      go_upto_region 6 with (fail)
      clear c0 c1 c2 c3 c4 c5 c6 c7 c8 c9 hbr
      generalize wr.alloc (.cells #[.int .i64 r.kind, .int .u32 (r.src : Int), .int .u32 (r.about : Int), .slice At r.tups.length ct, .slice Aa r.abouts.length ca, .slice An r.nums.length cn, .int .u64 (r.rate : Int), .int .i64 r.ty, .int .i64 r.count, .slice Ab r.body.length cb] 33) = V at hB hal hrx ⊢
      generalize wr.heap.size = G at hB ⊢
      have hG := hB.lt
      obtain ⟨p0, p1, p2, p3, p4, p5, p6, p7, p8, p9⟩ := blk10 hB
      clear hB
      refine wp_region_tbl [.val (.agg #[.int .i64 r.kind, .int .u32 (r.src : Int), .int .u32 (r.about : Int), .slice At r.tups.length ct, .slice Aa r.abouts.length ca, .slice An r.nums.length cn, .int .u64 (r.rate : Int), .int .i64 r.ty, .int .i64 r.count, .slice Ab r.body.length cb]), .val (.int .i64 er), .val (.agg #[.int .i64 r.kind, .int .u32 (r.src : Int), .int .u32 (r.about : Int), .slice At r.tups.length ct, .slice Aa r.abouts.length ca, .slice An r.nums.length cn, .int .u64 (r.rate : Int), .int .i64 r.ty, .int .i64 r.count, .slice Ab r.body.length cb]), .val (.int .i64 er), .val (.bool false), .val (.bool false), .val (.agg #[.int .i64 r.kind, .int .u32 (r.src : Int), .int .u32 (r.about : Int), .slice At r.tups.length ct, .slice Aa r.abouts.length ca, .slice An r.nums.length cn, .int .u64 (r.rate : Int), .int .i64 r.ty, .int .i64 r.count, .slice Ab r.body.length cb]), .val (.agg #[.int .i64 r.kind, .int .u32 (r.src : Int), .int .u32 (r.about : Int), .slice At r.tups.length ct, .slice Aa r.abouts.length ca, .slice An r.nums.length cn, .int .u64 (r.rate : Int), .int .i64 r.ty, .int .i64 r.count, .slice Ab r.body.length cb]), .val (.bool true), .val (.bool false), .val (.bool false)] (by kernel_rfl) (by kernel_rfl) (by kernel_rfl) (AllObl.all ⟨?_, ?_, ?_, ?_, ?_, ?_, ?_, ?_, ?_, ?_, ?_, trivial⟩) ?_
      · exact Obl.pure trivial (.agg #[.int .i64 r.kind, .int .u32 (r.src : Int), .int .u32 (r.about : Int), .slice At r.tups.length ct, .slice Aa r.abouts.length ca, .slice An r.nums.length cn, .int .u64 (r.rate : Int), .int .i64 r.ty, .int .i64 r.count, .slice Ab r.body.length cb]) (by kernel_rfl) (fun ev w hb hx => by
          have e8 : ev (.tmp 8) = .pointer (some ⟨G, 0, none⟩) := holds_val (hx (.tmp 8)) (by kernel_rfl)
          (have m0 := (((drew_below _).trans hb).cell (p := ⟨G, 0, none⟩) hG).trans p0; have m1 := (((drew_below _).trans hb).cell (p := ⟨G, 1, none⟩) hG).trans p1; have m2 := (((drew_below _).trans hb).cell (p := ⟨G, 2, none⟩) hG).trans p2; have m3 := (((drew_below _).trans hb).cell (p := ⟨G, 3, none⟩) hG).trans p3; have m4 := (((drew_below _).trans hb).cell (p := ⟨G, 4, none⟩) hG).trans p4; have m5 := (((drew_below _).trans hb).cell (p := ⟨G, 5, none⟩) hG).trans p5; have m6 := (((drew_below _).trans hb).cell (p := ⟨G, 6, none⟩) hG).trans p6; have m7 := (((drew_below _).trans hb).cell (p := ⟨G, 7, none⟩) hG).trans p7; have m8 := (((drew_below _).trans hb).cell (p := ⟨G, 8, none⟩) hG).trans p8; have m9 := (((drew_below _).trans hb).cell (p := ⟨G, 9, none⟩) hG).trans p9; simp [execOp, e8, go_sem, m0, m1, m2, m3, m4, m5, m6, m7, m8, m9]))
      · exact Obl.call trivial 23 #[.tmp 25] _ rfl Try.f23 Try.func23 (by kernel_rfl) (by kernel_rfl) (fun ev w hb hx => by
          have e25 : ev (.tmp 25) = .agg #[.int .i64 r.kind, .int .u32 (r.src : Int), .int .u32 (r.about : Int), .slice At r.tups.length ct, .slice Aa r.abouts.length ca, .slice An r.nums.length cn, .int .u64 (r.rate : Int), .int .i64 r.ty, .int .i64 r.count, .slice Ab r.body.length cb] := holds_val (hx (.tmp 25)) (by kernel_rfl)
          simp only [List.map_toArray, List.map_cons, List.map_nil, e25]
          exact (hr1 _ (hrx.on ((drew_below _).trans hb))).mono fun _ _ hh => Val.holds (by kernel_rfl) hh)
      · exact Obl.pure trivial (.agg #[.int .i64 r.kind, .int .u32 (r.src : Int), .int .u32 (r.about : Int), .slice At r.tups.length ct, .slice Aa r.abouts.length ca, .slice An r.nums.length cn, .int .u64 (r.rate : Int), .int .i64 r.ty, .int .i64 r.count, .slice Ab r.body.length cb]) (by kernel_rfl) (fun ev w hb hx => by
          have e8 : ev (.tmp 8) = .pointer (some ⟨G, 0, none⟩) := holds_val (hx (.tmp 8)) (by kernel_rfl)
          (have m0 := (((drew_below _).trans hb).cell (p := ⟨G, 0, none⟩) hG).trans p0; have m1 := (((drew_below _).trans hb).cell (p := ⟨G, 1, none⟩) hG).trans p1; have m2 := (((drew_below _).trans hb).cell (p := ⟨G, 2, none⟩) hG).trans p2; have m3 := (((drew_below _).trans hb).cell (p := ⟨G, 3, none⟩) hG).trans p3; have m4 := (((drew_below _).trans hb).cell (p := ⟨G, 4, none⟩) hG).trans p4; have m5 := (((drew_below _).trans hb).cell (p := ⟨G, 5, none⟩) hG).trans p5; have m6 := (((drew_below _).trans hb).cell (p := ⟨G, 6, none⟩) hG).trans p6; have m7 := (((drew_below _).trans hb).cell (p := ⟨G, 7, none⟩) hG).trans p7; have m8 := (((drew_below _).trans hb).cell (p := ⟨G, 8, none⟩) hG).trans p8; have m9 := (((drew_below _).trans hb).cell (p := ⟨G, 9, none⟩) hG).trans p9; simp [execOp, e8, go_sem, m0, m1, m2, m3, m4, m5, m6, m7, m8, m9]))
      · exact Obl.call trivial 32 #[.tmp 27] _ rfl Try.f32 Try.func32 (by kernel_rfl) (by kernel_rfl) (fun ev w hb hx => by
          have e27 : ev (.tmp 27) = .agg #[.int .i64 r.kind, .int .u32 (r.src : Int), .int .u32 (r.about : Int), .slice At r.tups.length ct, .slice Aa r.abouts.length ca, .slice An r.nums.length cn, .int .u64 (r.rate : Int), .int .i64 r.ty, .int .i64 r.count, .slice Ab r.body.length cb] := holds_val (hx (.tmp 27)) (by kernel_rfl)
          simp only [List.map_toArray, List.map_cons, List.map_nil, e27]
          exact (hr2 _ (hrx.on ((drew_below _).trans hb))).mono fun _ _ hh => Val.holds (by kernel_rfl) hh)
      · exact Obl.bin trivial .neq _ (.tmp 26) (.tmp 28) _ rfl (.int .i64 er) (.int .i64 er) (.bool false) (by kernel_rfl) (by kernel_rfl) (fun w => by simp [eqGuard, go_sem]) (by kernel_rfl)
      · exact Obl.move trivial _ (Or.inl rfl) (by kernel_rfl)
      · exact Obl.pure ⟨by kernel_rfl, by kernel_rfl, by kernel_rfl⟩ (.agg #[.int .i64 r.kind, .int .u32 (r.src : Int), .int .u32 (r.about : Int), .slice At r.tups.length ct, .slice Aa r.abouts.length ca, .slice An r.nums.length cn, .int .u64 (r.rate : Int), .int .i64 r.ty, .int .i64 r.count, .slice Ab r.body.length cb]) (by kernel_rfl) (fun ev w hb hx => by
          have e8 : ev (.tmp 8) = .pointer (some ⟨G, 0, none⟩) := holds_val (hx (.tmp 8)) (by kernel_rfl)
          (have m0 := (((drew_below _).trans hb).cell (p := ⟨G, 0, none⟩) hG).trans p0; have m1 := (((drew_below _).trans hb).cell (p := ⟨G, 1, none⟩) hG).trans p1; have m2 := (((drew_below _).trans hb).cell (p := ⟨G, 2, none⟩) hG).trans p2; have m3 := (((drew_below _).trans hb).cell (p := ⟨G, 3, none⟩) hG).trans p3; have m4 := (((drew_below _).trans hb).cell (p := ⟨G, 4, none⟩) hG).trans p4; have m5 := (((drew_below _).trans hb).cell (p := ⟨G, 5, none⟩) hG).trans p5; have m6 := (((drew_below _).trans hb).cell (p := ⟨G, 6, none⟩) hG).trans p6; have m7 := (((drew_below _).trans hb).cell (p := ⟨G, 7, none⟩) hG).trans p7; have m8 := (((drew_below _).trans hb).cell (p := ⟨G, 8, none⟩) hG).trans p8; have m9 := (((drew_below _).trans hb).cell (p := ⟨G, 9, none⟩) hG).trans p9; simp [execOp, e8, go_sem, m0, m1, m2, m3, m4, m5, m6, m7, m8, m9]))
      · exact Obl.pure ⟨by kernel_rfl, by kernel_rfl, by kernel_rfl⟩ (.agg #[.int .i64 r.kind, .int .u32 (r.src : Int), .int .u32 (r.about : Int), .slice At r.tups.length ct, .slice Aa r.abouts.length ca, .slice An r.nums.length cn, .int .u64 (r.rate : Int), .int .i64 r.ty, .int .i64 r.count, .slice Ab r.body.length cb]) (by kernel_rfl) (fun ev w hb hx => by
          have e8 : ev (.tmp 8) = .pointer (some ⟨G, 0, none⟩) := holds_val (hx (.tmp 8)) (by kernel_rfl)
          (have m0 := (((drew_below _).trans hb).cell (p := ⟨G, 0, none⟩) hG).trans p0; have m1 := (((drew_below _).trans hb).cell (p := ⟨G, 1, none⟩) hG).trans p1; have m2 := (((drew_below _).trans hb).cell (p := ⟨G, 2, none⟩) hG).trans p2; have m3 := (((drew_below _).trans hb).cell (p := ⟨G, 3, none⟩) hG).trans p3; have m4 := (((drew_below _).trans hb).cell (p := ⟨G, 4, none⟩) hG).trans p4; have m5 := (((drew_below _).trans hb).cell (p := ⟨G, 5, none⟩) hG).trans p5; have m6 := (((drew_below _).trans hb).cell (p := ⟨G, 6, none⟩) hG).trans p6; have m7 := (((drew_below _).trans hb).cell (p := ⟨G, 7, none⟩) hG).trans p7; have m8 := (((drew_below _).trans hb).cell (p := ⟨G, 8, none⟩) hG).trans p8; have m9 := (((drew_below _).trans hb).cell (p := ⟨G, 9, none⟩) hG).trans p9; simp [execOp, e8, go_sem, m0, m1, m2, m3, m4, m5, m6, m7, m8, m9]))
      · exact Obl.call ⟨by kernel_rfl, by kernel_rfl, by kernel_rfl⟩ 17 #[.tmp 31, .tmp 32] _ rfl Try.f17 Try.func17 (by kernel_rfl) (by kernel_rfl) (fun ev w hb hx => by
          have e31 : ev (.tmp 31) = .agg #[.int .i64 r.kind, .int .u32 (r.src : Int), .int .u32 (r.about : Int), .slice At r.tups.length ct, .slice Aa r.abouts.length ca, .slice An r.nums.length cn, .int .u64 (r.rate : Int), .int .i64 r.ty, .int .i64 r.count, .slice Ab r.body.length cb] := holds_val (hx (.tmp 31)) (by kernel_rfl)
          have e32 : ev (.tmp 32) = .agg #[.int .i64 r.kind, .int .u32 (r.src : Int), .int .u32 (r.about : Int), .slice At r.tups.length ct, .slice Aa r.abouts.length ca, .slice An r.nums.length cn, .int .u64 (r.rate : Int), .int .i64 r.ty, .int .i64 r.count, .slice Ab r.body.length cb] := holds_val (hx (.tmp 32)) (by kernel_rfl)
          simp only [List.map_toArray, List.map_cons, List.map_nil, e31, e32]
          exact (hrs _ (hrx.on ((drew_below _).trans hb))).mono fun _ _ hh => Val.holds (by kernel_rfl) hh)
      · exact Obl.un ⟨by kernel_rfl, by kernel_rfl, by kernel_rfl⟩ .not _ (.tmp 33) rfl (.bool true) (.bool false) (by kernel_rfl) (fun w => by simp [go_sem]) (by kernel_rfl)
      · exact Obl.pick trivial _ _ _ rfl false (by kernel_rfl) (by kernel_rfl)
      intro a WR hb hsz hdf hold hv
      have ha := act_puts [25, 26, 27, 28, 29, 30, 31, 32, 33, 34, 35] (by kernel_rfl) hsz hdf hold
      simp only [putAll] at ha
      have z35 : a.tmps.getD 35 undef = .bool false := holds_val (hv 10 35 (by kernel_rfl)) (by kernel_rfl)
      rw [z35] at ha
      generalize a.tmps.getD 25 undef = x25 at ha
      generalize a.tmps.getD 26 undef = x26 at ha
      generalize a.tmps.getD 27 undef = x27 at ha
      generalize a.tmps.getD 28 undef = x28 at ha
      generalize a.tmps.getD 29 undef = x29 at ha
      generalize a.tmps.getD 30 undef = x30 at ha
      generalize a.tmps.getD 31 undef = x31 at ha
      generalize a.tmps.getD 32 undef = x32 at ha
      generalize a.tmps.getD 33 undef = x33 at ha
      generalize a.tmps.getD 34 undef = x34 at ha
      clear hv hold hsz hdf z35
      subst ha
      simp only [Act.put, List.setIfInBounds_toArray, List.set_cons_succ, List.set_cons_zero]
      have bw3 := hal.trans (((drew_below _).trans hb).mono hal.size)
      clear hb hal hrx hr1 hr2 hrs p0 p1 p2 p3 p4 p5 p6 p7 p8 p9
      go_wp2_with fail
      go_roundw
      case rel => exact ⟨q + 1, by omega, by go_num, bw3⟩
      case measure => simp [intOf]; omega
    · have g3 : decide ((q : Int) < (n : Int)) = false := by simp; omega
      replace r1 := r1.on hbr
      replace r2 := r2.on hbr
      have hb3 := b2.trans (hbr.mono b2.size)
      have s1 := r1.string (P := Try.prog) 31 5 9 Try.underlying31 Try.underlying5 Try.underlying9
      have s2 := r2.string (P := Try.prog) 31 5 9 Try.underlying31 Try.underlying5 Try.underlying9
      have hrd := fun W hW => law6_reads A2 n2 c2 B W (r2.on hW) (by have := r2.1; have := hB15.out; omega)
      clear r1 r2 h hbr b2
      by_cases hE : E = 0
      · subst hE
        go_wp2_with fail
        refine (hrd _ (by first | exact Below.refl _ _ | exact drew_below _)).mono ?_
        rintro e w5 ⟨rfl, b5⟩
        replace b5 := hb3.trans (b5.mono hb3.size)
        clear hrd s1 s2 hb3
        go_wp2_with fail
        go_ret
        exact ⟨by simp, b5⟩
      · have hE2 : (E != 0) = true := by simpa using hE
        clear hrd
        go_wp2_with fail
        go_ret
        exact ⟨by simp, by first | exact hb3 | exact hb3.drew⟩
end Go.Proofs.Ytnchgmemajmkjaa.RP
