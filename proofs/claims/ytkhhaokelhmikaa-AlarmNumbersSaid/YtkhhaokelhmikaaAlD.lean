/- The project's table of deadlines: Due. -/
import Derived.Test.YtkhhaokelhmikaaAlC
namespace Go.Proofs.Ytkhhaokelhmikaa
open Go.RowKit Go.Maps Go.Sort Go.Proofs
set_option linter.unusedVariables false
set_option linter.unusedSimpArgs false
set_option maxRecDepth 20000

theorem grown_onlyS {w w' : World} {o : Option Nat} (h : w.grownBy w' o) : OnlyS (fun k => o = some k) w w' := ⟨h.os, h.tape, h.output, h.size, fun k hk hn => h.block k hk fun e => hn e.symm⟩
/-- What stands while the map is ranged over; r: the iterator's block. -/
structure DueW (w : World) (G Mb r : Nat) (L : List Du) (now : Int) (v : Value) (R : List Du) (left : Lit → Bool) (cnt : Nat) (W : World) : Prop where
  tab : Blk W G 49 #[.map (some Mb)]
  rng : ∃ D, W.ranges Try.prog 23 (plainElem Try.prog 2) Mb r L.length D left cnt ∧ MapR (keepL L now left) D
  due : DueL L now left R
  row : OwnD W (r + 1) v R
  only : OnlyS (fun k => k = Mb) w W
  size : r + 1 ≤ W.heap.size
/-- What does not turn. -/
structure DueF (w : World) (G Mb r : Nat) (L : List Du) (now : Int) : Prop where
  lo : w.heap.size ≤ r
  ne : G ≠ Mb
  g : G < w.heap.size
  m : Mb < w.heap.size
  keys : Keys L
  ins : InD L
  len : L.length ≤ 100000
theorem DueL.rows {L R : List Du} {now : Int} {left : Lit → Bool} (h : DueL L now left R) : R.length ≤ L.length := nodup_le h.nod fun d hd => ((h.mem d).1 hd).1
theorem DueL.ins {L R : List Du} {now : Int} {left : Lit → Bool} (h : DueL L now left R) (hi : InD L) : ∀ x ∈ R, x.In := fun x hx => hi x ((h.mem x).1 hx).1
section
variable {w W W' : World} {G Mb r cnt : Nat} {L R : List Du} {now : Int} {v : Value} {left : Lit → Bool}
/-- The iterator goes on, or a row grows, or new blocks are made: the table and the row stay. -/
theorem DueW.keep_tab (h : DueW w G Mb r L now v R left cnt W) (F : DueF w G Mb r L now) {o : Option Nat} (hg : W.grownBy W' o) (ho : ∀ k, o = some k → r ≤ k ∨ k = Mb) : Blk W' G 49 #[.map (some Mb)] ∧ OnlyS (fun k => k = Mb) w W' := by
  have hm := F.m
  have hgl := F.g
  have hlo := F.lo
  have hne := F.ne
  refine ⟨h.tab.onlyS (grown_onlyS hg) (fun e => ?_), h.only.trans (grown_onlyS hg) fun k hk hkw => ?_⟩
  · rcases ho G e with h1 | h1 <;> omega
  · rcases ho k hk with h1 | h1
    · omega
    · exact h1
/-- What the step brings. -/
theorem DueW.entry (h : DueW w G Mb r L now v R left cnt W) (F : DueF w G Mb r L now) {x c : Int} {D : DataW Unit} (hr : W.ranges Try.prog 23 (plainElem Try.prog 2) Mb r L.length D left cnt) (hm : MapR (keepL L now left) D)
    (hwx : (Lit.int .u64 x).wf = true) (hl : left (.int .u64 x) = true) (hat : ∀ zd, D.atKey (.int .u64 x) zd = .lit (.int .i64 c)) : ∃ k : Nat, x = (k : Int) ∧ (⟨c, k⟩ : Du) ∈ L := by
  have h0 : 0 ≤ x := by
    simp [Lit.wf, IntKind.min, IntKind.max, IntKind.signed, IntKind.bits] at hwx
    omega
  obtain ⟨k, rfl⟩ := Int.eq_ofNat_of_zero_le h0
  exact ⟨k, rfl, keepL_mem (entry_of hm (keepL_keys F.keys now left) (ranges_has hr lawU hl) hat)⟩
end
set_option maxHeartbeats 4000000 in
theorem tb_due {w : World} {G : Nat} {L : List Du} {S : Nat → Prop} (h : TbAt w G L S) (hk : Keys L) (hi : InD L) (hl : L.length ≤ 100000) {now : Int} (ht : I64 now) : Calls Try.prog 11 #[.pointer (some ⟨G, 0, none⟩), .int .i64 now] w (TbDue G L now S w) := by
  obtain ⟨Mb, D, h1, h2, h3, h4⟩ := h
  have c0 : w.cell? ⟨G, 0, none⟩ = some (.map (some Mb)) := h1.cell 0
  have HF : Hid (DueF w G Mb w.heap.size L now) := Lib.hid ⟨Nat.le_refl _, mapOf_ne h1 h2, h1.lt, h2.lt, hk, hi, hl⟩
  have HS := Lib.hid h4
  have H0 := Lib.hid (⟨h1, h2, h3⟩ : Blk w G 49 #[.map (some Mb)] ∧ MapOf w Mb L.length D ∧ MapR L D)
  clear h1 h2 h3 h4 hk hi hl ht
  go_enter Try.func11, Try.ntmps11
  go_wp2_with (at_range; refine wpList_range_own _ rfl _ 39 rfl 23 2 lawU Try.underlying39 _ Mb L.length D rfl H0.out.2.1 ?_; intro w0 hrg0 hg0 hs0)
  obtain ⟨r, hr⟩ : ∃ r, r = w.heap.size := ⟨_, rfl⟩
  have H1 : Hid (DueW w G Mb r L now (.slice none 0 0) [] (Maps.has D) (Maps.size D) w0) := Lib.hid (by
    have hall : ∀ d ∈ L, Maps.has D (keyL d.k) = true := fun d hd => by
      rw [H0.out.2.2.has]
      exact hasK_iff.2 ⟨d, hd, rfl⟩
    subst hr
    exact ⟨H0.out.1.onlyS (grown_onlyS hg0) (fun e => by cases e), ⟨D, hrg0, by rw [keepL_start hall]; exact H0.out.2.2⟩, DueL.start hall, OwnD.nil _ _, (grown_onlyS hg0).more (fun k e => by cases e), by omega⟩)
  have HF : Hid (DueF w G Mb r L now) := Lib.hid (by rw [hr]; exact HF.out)
  rw [← hr]
  clear hr hrg0 hg0 hs0 c0
  go_frame
  go_loopw [5] (fun v wr => ∃ (m : Nat) (A : Option Addr) (c : Nat), v = .slice A m c ∧ Hid (∃ R left cnt, DueW w G Mb r L now v R left cnt wr)) (fun _ wr => wr.rangeLeft Mb r)
  case atStart => exact ⟨0, none, 0, rfl, Lib.hid ⟨_, _, _, H1.out⟩⟩
  case round =>
    obtain ⟨m, A, cc, rfl, HR⟩ := hrel
    clear H0 H1
    obtain ⟨R, left, cnt, hd⟩ := HR.out
    obtain ⟨D', hrg, hmap⟩ := hd.rng
    have HD := Lib.hid hd
    have HM := Lib.hid hmap
    have HG := Lib.hid hrg
    clear hd hrg hmap HR
    go_wp2_with (at_next; refine wpList_next_ranges_ii _ rfl _ rfl 23 2 .u64 .i64 lawU Try.underlying23 Try.underlying2 Mb r L.length _ _ _ rfl HG.out ?_ ?_)
    · intro _ hl0
      have hrow := HD.out.row
      have hlen : R.length < 4611686018427387904 := by have := HD.out.due.rows; have := HF.out.len; omega
      have HL0 := Lib.hid hl0
      clear hl0
      go_wp2_with fail
      ((with_reducible refine (sort_own hrow hlen).mono ?_); rintro e w5 ⟨rfl, ho5, hg5⟩)
      go_wp2_with fail
      go_ret
      have F := HF.out
      have d := HD.out
      have hb : ∀ kk, (Value.slice A m cc).ownBlock = some kk → r + 1 ≤ kk := fun kk hkk => (World.ownsRow.lt hrow kk hkk).1
      obtain ⟨t5, o5⟩ := d.keep_tab F hg5 (fun kk hkk => .inl (Nat.le_of_succ_le (hb kk hkk)))
      have hm := HM.out
      rw [keepL_end HL0.out] at hm
      have mp := ownsMap_tight (HG.out.owns.kept hg5 (fun e => by have := hb Mb e.symm; have := F.m; have := F.lo; omega))
      rw [hm.size] at mp
      have hperm := sortD_perm R
      obtain ⟨A', c', e, rd, hA⟩ := ho5.rd (fun x hx => d.due.ins F.ins x (hperm.mem_iff.1 hx))
      injection e with e1 e2 e3
      subst e1
      subst e2
      subst e3
      exact ⟨A, _, cc, sortD R, S, rfl, d.due.done HL0.out hperm (sortD_order R), rd, fun ad hAd hn => by
        have h1 := hA ad hAd
        have h2 := F.lo
        refine ⟨by omega, fun hS => ?_⟩
        have h3 := F.g
        have h4 := F.m
        rcases (HS.out ad.block).1 hS with h5 | h5 <;> omega, ⟨Mb, D', t5, mp, hm, HS.out⟩, fun kk hkk => .inl hkk, o5.more fun kk hkk => (HS.out kk).2 (.inr hkk)⟩
    · intro x c w1 cnt1 hwx hwc hlx hat hrg1 hlt hg1 hs1 hen
      obtain ⟨k, rfl, hin⟩ := HD.out.entry HF.out HG.out HM.out hwx hlx hat
      have hb : ∀ kk, (Value.slice A m cc).ownBlock = some kk → r + 1 ≤ kk := fun kk hkk => (World.ownsRow.lt HD.out.row kk hkk).1
      obtain ⟨t1, o1⟩ := HD.out.keep_tab HF.out hg1 (fun kk hkk => by injection hkk with hkk; omega)
      have row1 : OwnD w1 (r + 1) (.slice A m cc) R := World.ownsRow.kept HD.out.row hg1 (by
        cases hv : (Value.slice A m cc).ownBlock with
        | none => exact .inl rfl
        | some kk =>
          refine .inr fun e => ?_
          injection e with e
          have := hb kk hv
          omega)
      have c0 : w1.cell? ⟨G, 0, none⟩ = some (.map (some Mb)) := t1.cell 0
      have hsz : r + 1 ≤ w1.heap.size := by have := HD.out.size; omega
      have HIN := Lib.hid hin
      have HLX := Lib.hid hlx
      have HB := Lib.hid hb
      have HLT := Lib.hid hlt
      have HKY : Hid (keyOf Try.prog 23 (.int .u64 (k : Int)) = some (.int .u64 (k : Int))) := Lib.hid (keyOf_int_mk Try.underlying23 hwx)
      clear hwx hwc hlx hat hin hb hlt hg1 hs1
      by_cases hc : c ≤ now
      · have row2 := row1.on (belowA w1 (.cells #[.int .i64 c, .int .u64 (k : Int)] 35))
        have one2 := one_rd w1 ⟨c, k⟩ (HF.out.ins _ HIN.out)
        have sz2 : r + 1 ≤ (w1.alloc (.cells #[.int .i64 c, .int .u64 (k : Int)] 35)).heap.size := by simp; omega
        have rg2 := hrg1.alloc (.cells #[.int .i64 c, .int .u64 (k : Int)] 35)
        have t2 := t1.alloc (.cells #[.int .i64 c, .int .u64 (k : Int)] 35)
        have o2 : OnlyS (fun kk => kk = Mb) w (w1.alloc (.cells #[.int .i64 c, .int .u64 (k : Int)] 35)) := o1.trans (OnlyS.of (S := fun _ => False) (belowA w1 _)) (fun _ h _ => h.elim)
        have hll : R.length + 1 ≤ 8796093022208 := by have := HD.out.due.rows; have := HF.out.len; omega
        have H2 := Lib.hid (⟨row2, one2, sz2, rg2, t2, o2, hll⟩ : _ ∧ _ ∧ _ ∧ _ ∧ _ ∧ _ ∧ _)
        clear row1 row2 one2 sz2 rg2 t2 o2 hll hrg1 t1 o1 hsz
        go_wp2_with (first
          | (at_builtin; go_loud (with_reducible refine wpList_appendD rfl (.tmp 21) (.tmp 25) rfl rfl (r + 1) (.slice A m cc) R (by with_unfolding_all rfl) H2.out.1 _ _ 1 1 [⟨c, k⟩] (by with_unfolding_all rfl) H2.out.2.1 H2.out.2.2.2.2.2.2 H2.out.2.2.1 ?_); intro v9 w9 ha9; have c0 : w9.cell? ⟨G, 0, none⟩ = some (.map (some Mb)) := (H2.out.2.2.2.2.1.onlyS (grown_onlyS ha9.2) (fun e => by have := HB.out G e; have := HF.out.g; have := HF.out.lo; omega)).cell 0; have HA := Lib.hid ha9; clear ha9)
          | (at_delete; refine wpList_delete_ranges _ rfl _ _ 39 23 rfl 2 lawU Try.underlying39 _ Mb r L.length _ _ _ rfl (H2.out.2.2.2.1.kept HA.out.2 (fun e => by have := HB.out Mb e.symm; have := HF.out.m; have := HF.out.lo; omega) (fun e => by have := HB.out r e.symm; omega)) _ _ rfl HKY.out ?_; intro w2 cnt2 hrg2 hle hturn))
        rw [strike_twice] at hrg2
        have HR2 := Lib.hid hrg2
        have HT2 := Lib.hid hturn
        have HLE := Lib.hid hle
        have F := HF.out
        have hne := F.ne
        have hlo := F.lo
        have hg := F.g
        have hm := F.m
        obtain ⟨a1, a2⟩ := HA.out
        have hb9 : ∀ kk, v9.ownBlock = some kk → r + 1 ≤ kk := fun kk hkk => (World.ownsRow.lt a1 kk hkk).1
        have hg2 := HT2.out.grown
        have row9 : OwnD w2 (r + 1) v9 (R ++ [⟨c, k⟩]) := World.ownsRow.kept a1 hg2 (.inr fun e => by have := hb9 Mb e; omega)
        have o9 : OnlyS (fun kk => kk = Mb) w w9 := H2.out.2.2.2.2.2.1.trans (grown_onlyS a2) (fun kk hkk hlt => by have := HB.out kk hkk; omega)
        have HN : Hid (DueW w G Mb r L now v9 (R ++ [⟨c, k⟩]) (fun z => left z && !z.sameKey (keyL k)) cnt2 w2) := Lib.hid ⟨
          (H2.out.2.2.2.2.1.onlyS (grown_onlyS a2) (fun e => by have := HB.out G e; omega)).onlyS (only_grown hg2) hne,
          ⟨_, HR2.out, by rw [keepL_drop F.keys HIN.out hc]; exact HM.out.del (HG.out.owns.tidy lawU) (keepL_keys F.keys _ _) k⟩,
          HD.out.due.take F.keys HIN.out HLX.out hc, row9, o9.trans (only_grown hg2) (fun kk hkk _ => hkk), Nat.le_trans (Nat.le_trans H2.out.2.2.1 a2.size) hg2.size⟩
        obtain ⟨A9, c9, e9, _⟩ := row9.rd (HN.out.due.ins F.ins)
        have HE := Lib.hid e9
        clear hrg2 hturn hle a1 a2 hb9 hg2 row9 o9 e9 F hne hlo hg hm
        go_roundw
        case rel => exact ⟨⟨_, _, _, HE.out⟩, Lib.hid ⟨_, _, _, HN.out⟩⟩
        case measure => rw [HR2.out.left_eq, HG.out.left_eq]; have := HLE.out; have := HLT.out; omega
      · have HN : Hid (DueW w G Mb r L now (.slice A m cc) R (fun z => left z && !z.sameKey (keyL k)) cnt1 w1) := Lib.hid ⟨t1, ⟨_, hrg1, by rw [keepL_stay HF.out.keys HIN.out (by show now < c; omega)]; exact HM.out⟩, HD.out.due.pass HF.out.keys HIN.out (by show now < c; omega), row1, o1, hsz⟩
        have HR1 := Lib.hid hrg1
        clear t1 o1 row1 hsz hrg1
        go_wp2_with fail
        go_roundw
        case rel => exact ⟨_, _, _, rfl, Lib.hid ⟨_, _, _, HN.out⟩⟩
        case measure => rw [HR1.out.left_eq, HG.out.left_eq]; exact HLT.out
end Go.Proofs.Ytkhhaokelhmikaa
