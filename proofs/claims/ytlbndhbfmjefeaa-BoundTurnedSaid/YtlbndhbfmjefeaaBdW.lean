/- BoundTurned's walk. -/
import Derived.Test.YtlbndhbfmjefeaaBdV
namespace Go.Proofs.Ytlbndhbfmjefeaa
open Go.RowKit
set_option linter.unusedVariables false
set_option linter.unusedSimpArgs false
set_option maxRecDepth 20000

theorem OwnTp.blk {w : World} {base g off n c : Nat} {L : List Tup} (h : OwnTp w base (.slice (some ⟨g, off, none⟩) n c) L) : base ≤ g ∧ ∀ i, w.frozen? ⟨g, i, none⟩ = false := by
  obtain ⟨hl, ⟨e, _⟩ | ⟨g', cap, cur, e, hb, hg, _⟩⟩ := h
  · cases e
  · injection e with e1 e2 e3
    injection e1 with e1
    injection e1 with e1 e4
    subst e1
    have hB : Blk w g 30 cur := hg
    exact ⟨hb, fun i => hB.frozen i⟩
theorem small_set {L : List Tup} {q o : Nat} (h : ∀ t ∈ L, t.small) (hq : q < L.length) (ho : o ≤ 9) : ∀ t ∈ L.set q ⟨o, L[q].rate, L[q].over⟩, t.small := fun t ht => by
  rcases List.mem_or_eq_of_mem_set ht with h1 | h1
  · exact h t h1
  · subst h1
    obtain ⟨_, h2, h3, h4⟩ := h L[q] (List.getElem_mem hq)
    exact ⟨ho, h2, h3, h4⟩
def tuF (w0 : World) : Frame where
  I := fun W => Below w0.heap.size w0 W
  Fr := fun a b => Below a.heap.size a b
  refl := fun w _ => Below.refl _ w
  trans := fun a b c h k => h.trans (k.mono h.size)
  drew := fun W h => ⟨h.trans ((belowDrewN W 1).mono h.size), belowDrewN W 1⟩
def emT (w0 : World) : ClF (tuF w0) := .pred (fun v W => ∃ g, v = .slice (some ⟨g, 0, none⟩) 0 0 ∧ w0.heap.size ≤ g ∧ Blk W g 30 #[]) (fun v a b _ hf _ h => by
  obtain ⟨g, e, h1, h2⟩ := h
  exact ⟨g, e, h1, (hf.block g h2.lt).trans h2⟩)
def rwT (w0 : World) (L : List Tup) : ClF (tuF w0) := .pred (fun v W => OwnTp W w0.heap.size v L) (fun v a b _ hf _ h => h.on hf)
theorem emT_of {w0 : World} {c : ClF (tuF w0)} {v : Value} {W : World} (h : c.holds v W) (e : c = emT w0) : ∃ g, v = .slice (some ⟨g, 0, none⟩) 0 0 ∧ w0.heap.size ≤ g ∧ Blk W g 30 #[] := by subst e; exact h
theorem rwT_of {w0 : World} {L : List Tup} {c : ClF (tuF w0)} {v : Value} {W : World} (h : c.holds v W) (e : c = rwT w0 L) : OwnTp W w0.heap.size v L := by subst e; exact h
theorem ownTp_empty {W : World} {base g : Nat} (hb : base ≤ g) (h : Blk W g 30 #[]) : OwnTp W base (.slice (some ⟨g, 0, none⟩) 0 0) [] := ⟨rfl, .inr ⟨g, 0, #[], rfl, hb, h, Nat.le_refl _, by simp [maxLen], rfl, rfl⟩⟩
theorem run_op_appendTp {o : Oper} {ev : Operand → Value} {w w' : World} (s x : Operand) (ho : o.op = .call { callee := .builtin .append, args := #[s, x], argTypes := #[22, 22] }) (hty : o.type = 22) (v v' y : Value)
    (hs : ev s = v) (hx : ev x = y) (hrun : (Builtin.append_ #[22, 22] 22 #[v, y]).run Try.prog w = .ok v' w') : (execOp ev o).run Try.prog w = .ok (.value v') w' := by
  unfold execOp
  simp only [ho, hty, resolve, invoke, builtin, Sem.run_bind, Sem.run_pure, Result.andThen_ok, List.map_toArray, List.map_cons, List.map_nil, hs, hx, hrun]
theorem turn_at (a : Int) (k : Nat) (hk : 0 < k) (hk9 : k ≤ 9) : ∃ j : Nat, (wrap64 (a.tmod (k : Int) + (k : Int))).tmod (k : Int) = (j : Int) ∧ j < k := by
  have m1 := Int.lt_tmod_of_pos a (show (0 : Int) < (k : Int) by omega)
  have m2 := Int.tmod_lt_of_pos a (show (0 : Int) < (k : Int) by omega)
  generalize a.tmod (k : Int) = x at m1 m2 ⊢
  have h1 : wrap64 (x + (k : Int)) = x + (k : Int) := by unfold wrap64; omega
  rw [h1]
  have m3 := Int.tmod_nonneg (k : Int) (show 0 ≤ x + (k : Int) by omega)
  have m4 := Int.tmod_lt_of_pos (x + (k : Int)) (show (0 : Int) < (k : Int) by omega)
  generalize (x + (k : Int)).tmod (k : Int) = y at m3 m4 ⊢
  exact ⟨y.toNat, by omega, by omega⟩
set_option maxHeartbeats 4000000 in
theorem boundTurned_walk (A : Option Addr) (n c : Nat) (nn at_ : Int) (w : World) (hr : RI w w.heap.size A n c) (hn : n ≤ 281474976710656) (hnn : I64 nn) (hat : I64 at_) :
    Calls Try.prog 7 #[.slice A n c, .int .i64 nn, .int .i64 at_] w (Yes w) := by
  obtain ⟨k7, hk7, hk7l⟩ := bits_and_le nn 7 (by omega)
  replace hk7 : bits .and .i64 nn 7 = (k7 : Int) := hk7
  obtain ⟨k2, hk2⟩ : ∃ k2, k2 = 2 + k7 := ⟨_, rfl⟩
  have y1 : IntKind.i64.wrap (2 + (k7 : Int)) = (k2 : Int) := by rw [IntKind.wrap_i64]; omega
  have hk2l : k2 ≤ 9 := by omega
  have hk2p : 2 ≤ k2 := by omega
  have HR := Lib.hid hr
  have HN := Lib.hid hn
  clear hr hnn hn hk7l hk2
  go_enter Try.func7, Try.ntmps7
  go_wp2_with fail
  ((with_reducible refine (row_any HR.out HN.out k2 (by omega)).mono ?_); rintro e w1 ⟨vL, M, rfl, owL, hML, hsL, b1⟩)
  obtain ⟨AL, cL, hv, _, _⟩ := owL.rt (fun x hx => (hsL x hx).in_)
  rw [hML] at hv
  subst hv
  have HP : Hid (∃ L, OwnTp w1 w.heap.size (.slice AL k2 cL) L ∧ L.length = k2 ∧ (∀ t ∈ L, t.small) ∧ Below w.heap.size w w1) := Lib.hid ⟨M, owL, hML, hsL, b1⟩
  clear owL hML hsL b1 hk7 y1
  go_wp2_with fail
  go_loopw [8, 22] (fun _ i wr => ∃ q : Nat, q ≤ k2 ∧ i = .int .i64 (q : Int) ∧ Hid (∃ L, OwnTp wr w.heap.size (.slice AL k2 cL) L ∧ L.length = k2 ∧ (∀ t ∈ L, t.small) ∧ Below w.heap.size w wr)) (fun _ i _ => k2 - (intOf i).toNat)
  case atStart => exact ⟨0, by omega, rfl, HP⟩
  case round =>
    obtain ⟨q, hq, rfl, HQ⟩ := hrel
    obtain ⟨L, ow, hL, hs, hb⟩ := HQ.out
    clear HP HQ
    by_cases hlt : q < k2
    · have g1 : decide ((q : Int) < (k2 : Int)) = true := by simp; omega
      have g3 : (q : Int) < (k2 : Int) := by omega
      obtain ⟨A', c', hv, rL, _⟩ := ow.rt (fun x hx => (hs x hx).in_)
      injection hv with e1 e2 e3
      subst e1 e3
      have hqL : q < L.length := by rw [hL]; exact hlt
      obtain ⟨b, off, hA, hbb, c0, c1, c2⟩ := rL.at (q := q) hqL
      subst hA
      have f0 := ow.blk.2 (off + q * 3)
      have y1 : IntKind.u32.wrap (q : Int) = (q : Int) := by rw [IntKind.wrap_u32]; omega
      have ow' := ow.setOwner (o := q) hqL
      have hs' := small_set hs hqL (show q ≤ 9 by omega)
      have hb' : Below w.heap.size w (wr.setCell ⟨b, off + q * 3, none⟩ (.int .u32 (q : Int))) := hb.trans ((Only.set b (off + q * 3) wr (.int .u32 (q : Int))).below ow.blk.1 hb.size)
      have HN' : Hid (∃ L, OwnTp (wr.setCell ⟨b, off + q * 3, none⟩ (.int .u32 (q : Int))) w.heap.size (.slice (some ⟨b, off, none⟩) k2 cL) L ∧ L.length = k2 ∧ (∀ t ∈ L, t.small) ∧ Below w.heap.size w (wr.setCell ⟨b, off + q * 3, none⟩ (.int .u32 (q : Int)))) := Lib.hid ⟨_, ow', by rw [List.length_set]; exact hL, hs', hb'⟩
      generalize L[q].owner = o0 at c0
      clear ow rL hs hb ow' hs' hb' hbb c1 c2 e2
      go_wp2_with fail
      go_roundw
      case rel => exact ⟨q + 1, by omega, by go_num, HN'⟩
      case measure => simp [intOf]; omega
    · have g1 : decide ((q : Int) < (k2 : Int)) = false := by simp; omega
      have hd0 : (k2 : Int) ≠ 0 := by omega
      have hdb : ((k2 : Int) == 0) = false := by rw [beq_eq_false_iff_ne]; exact hd0
      have HW := Lib.hid (⟨ow, hL, hs, hb⟩ : _ ∧ _ ∧ _ ∧ _)
      clear ow hs hb hL
      go_upto_region 8 with (fail)
      obtain ⟨j, hj, hjl⟩ := turn_at at_ k2 (by omega) hk2l
      rw [hj]
      obtain ⟨A', c', hv, rL, _⟩ := HW.out.1.rt (fun x hx => (HW.out.2.2.1 x hx).in_)
      rw [HW.out.2.1] at hv rL
      injection hv with e1 e2 e3
      subst e1 e3
      have hkc := rL.2.2.2.1
      obtain ⟨A1, c1, hcut1, rD⟩ := cut_from rL hjl
      have hcut2 := fun W => cut_tup AL k2 cL j (by omega) W
      have rT := rL.take (show j ≤ k2 by omega)
      obtain ⟨m1, hm1⟩ : ∃ m, m = k2 - j := ⟨_, rfl⟩
      rw [← hm1] at hcut1 rD
      have HRL := Lib.hid (⟨rL, rD, rT⟩ : _ ∧ _ ∧ _)
      have HJ := Lib.hid (⟨hm1, hjl⟩ : _ ∧ _)
      have HCU := Lib.hid (⟨hcut1, hcut2⟩ : (∀ W, _) ∧ ∀ W, _)
      have HLn := Lib.hid (⟨by simp; omega, by rw [List.length_drop, HW.out.2.1]; omega⟩ : ([] : List Tup).length + m1 ≤ 4398046511104 ∧ (L.drop j).length + j ≤ 4398046511104)
      have hin := Lib.hid (fun x hx => (HW.out.2.2.1 x hx).in_ : ∀ x ∈ L, x.In)
      clear hj rL rD rT hcut1 hcut2 hm1 e2 hkc
      refine wp_region_d (F := tuF wr) (fun _ _ => True) (fun k i => (k == 4 && i == 0) || (k == 8 && (i == 0 || i == 4))) (fun i => i == 4 || i == 8) (fun _ _ => True) 9
        [emT wr, .val (.slice AL k2 cL), .val (.int .i64 (j : Int)), .val (.slice A1 m1 c1), rwT wr (L.drop j), .val (.slice AL k2 cL), .val (.int .i64 (j : Int)), .val (.slice AL j cL), rwT wr (L.drop j ++ L.take j)]
        (fun _ _ _ _ => trivial) (by kernel_rfl) (by kernel_rfl) (by kernel_rfl) (by decide) (by kernel_rfl) (belowDrewN wr 1) (fun i hi => trivial) (fun i a b _ _ _ _ _ => trivial) (AllOblD.upto ⟨?_, ?_, ?_, ?_, ?_, ?_, ?_, ?_, ?_, trivial⟩) ?_ ?_
      · intro _
        refine OblD.step rfl fun ev W hI hx => ?_
        refine ⟨.slice (some ⟨W.heap.size, 0, none⟩) 0 0, W.alloc (.cells #[] 30), ?_, hI.trans ((belowA W _).mono hI.size), belowA W _, ⟨W.heap.size, rfl, hI.size, Blk.new _ _ _⟩⟩
        simp [execOp, go_sem]
      · intro _
        exact OblD.move rfl _ (Or.inl rfl) (by kernel_rfl) rfl
      · intro _
        exact OblD.move rfl _ (Or.inl rfl) (by kernel_rfl) rfl
      · intro _
        refine OblD.pure rfl (.slice A1 m1 c1) (by kernel_rfl) rfl fun ev W hI hx => ?_
        have e43 : ev (.tmp 43) = .slice AL k2 cL := holds_valF (hx (.tmp 43)) (by kernel_rfl)
        have e44 : ev (.tmp 44) = .int .i64 (j : Int) := holds_valF (hx (.tmp 44)) (by kernel_rfl)
        have h1 := HCU.out.1 W
        have h2 : (Instr.sliceAt 22 (.slice AL k2 cL) (some (.int .i64 (j : Int))) none none).run Try.prog W = .ok (.slice A1 m1 c1) W := (run_sliceAt_slice W 22 _ _ _ _ (by kernel_rfl)).trans h1
        simp [execOp, e43, e44, go_sem, h1, h2]
      · exact fun hh => absurd hh (by decide)
      · intro _
        exact OblD.move rfl _ (Or.inl rfl) (by kernel_rfl) rfl
      · intro _
        exact OblD.move rfl _ (Or.inl rfl) (by kernel_rfl) rfl
      · intro _
        refine OblD.pure rfl (.slice AL j cL) (by kernel_rfl) rfl fun ev W hI hx => ?_
        have e47 : ev (.tmp 47) = .slice AL k2 cL := holds_valF (hx (.tmp 47)) (by kernel_rfl)
        have e48 : ev (.tmp 48) = .int .i64 (j : Int) := holds_valF (hx (.tmp 48)) (by kernel_rfl)
        have h1 := HCU.out.2 W
        have h2 : (Instr.sliceAt 22 (.slice AL k2 cL) none (some (.int .i64 (j : Int))) none).run Try.prog W = .ok (.slice AL j cL) W := (run_sliceAt_slice W 22 _ _ _ _ (by kernel_rfl)).trans h1
        simp [execOp, e47, e48, go_sem, h1, h2]
      · exact fun hh => absurd hh (by decide)
      · intro i oo him hsp hoo
        have hi2 : i = 4 ∨ i = 8 := by simpa using hsp
        rcases hi2 with hi2 | hi2
        · subst hi2
          obtain rfl := (Option.some.inj hoo).symm
          refine OblDX.step rfl fun ev W hI hpre hx => ?_
          obtain ⟨g1, e42, hg1, b1⟩ := emT_of (hx (.tmp 42)) (by kernel_rfl)
          have e45 : ev (.tmp 45) = .slice A1 m1 c1 := holds_valF (hx (.tmp 45)) (by kernel_rfl)
          obtain ⟨v', W', hrun, ho', hg'⟩ := run_appendTp wr.heap.size _ [] (ownTp_empty hg1 b1) W.heap.size A1 m1 c1 (L.drop j) (HRL.out.2.1.on hI) HLn.out.1 hI.size
          refine ⟨v', W', run_op_appendTp (.tmp 42) (.tmp 45) rfl rfl _ _ _ e42 e45 hrun, below_grown hI hI.size hg' (fun k hk => by have hk : g1 = k := Option.some.inj hk; omega), ?_, fun j _ _ _ _ => trivial, ?_⟩
          · intro i uu hi hd hdep hh
            by_cases hi9 : i < 9
            · have : i = 0 ∨ i = 8 ∨ i = 1 ∨ i = 2 ∨ i = 3 ∨ i = 5 ∨ i = 6 ∨ i = 7 := by omega
              rcases this with rfl | rfl | rfl | rfl | rfl | rfl | rfl | rfl
              · exact absurd hd (by decide)
              · exact absurd ((hdep.symm).trans (by kernel_rfl : _ = true)) (by decide)
              all_goals exact hh
            · rw [tbl_outF (n := 9) rfl (by omega)]
              trivial
          · exact ho'
        · subst hi2
          obtain rfl := (Option.some.inj hoo).symm
          refine OblDX.step rfl fun ev W hI hpre hx => ?_
          have o46 := rwT_of (L := L.drop j) (hx (.tmp 46)) (by kernel_rfl)
          have e49 : ev (.tmp 49) = .slice AL j cL := holds_valF (hx (.tmp 49)) (by kernel_rfl)
          obtain ⟨v', W', hrun, ho', hg'⟩ := run_appendTp wr.heap.size _ (L.drop j) o46 W.heap.size AL j cL (L.take j) (HRL.out.2.2.on hI) HLn.out.2 hI.size
          refine ⟨v', W', run_op_appendTp (.tmp 46) (.tmp 49) rfl rfl _ _ _ rfl e49 hrun, below_grown hI hI.size hg' (fun k hk => (World.ownsRow.lt o46 k hk).1), ?_, fun j _ _ _ _ => trivial, ?_⟩
          · intro i uu hi hd hdep hh
            by_cases hi9 : i < 9
            · have : i = 0 ∨ i = 4 ∨ i = 1 ∨ i = 2 ∨ i = 3 ∨ i = 5 ∨ i = 6 ∨ i = 7 := by omega
              rcases this with rfl | rfl | rfl | rfl | rfl | rfl | rfl | rfl
              · exact absurd hd (by decide)
              · exact absurd hd (by decide)
              all_goals exact hh
            · rw [tbl_outF (n := 9) rfl (by omega)]
              trivial
          · exact ho'
      intro aa W hI hsz hdf hold hv _
      have o50 : OwnTp W wr.heap.size (aa.tmps.getD 50 undef) (L.drop j ++ L.take j) := rwT_of (hv 8 (by decide) (by intro k; cases k <;> simp)) (by kernel_rfl)
      have ha := act_puts [42, 43, 44, 45, 46, 47, 48, 49, 50, 10] (by kernel_rfl) hsz hdf hold
      simp only [putAll] at ha
      generalize aa.tmps.getD 50 undef = v50 at ha o50
      generalize aa.tmps.getD 42 undef = x42 at ha
      generalize aa.tmps.getD 43 undef = x43 at ha
      generalize aa.tmps.getD 44 undef = x44 at ha
      generalize aa.tmps.getD 45 undef = x45 at ha
      generalize aa.tmps.getD 46 undef = x46 at ha
      generalize aa.tmps.getD 47 undef = x47 at ha
      generalize aa.tmps.getD 48 undef = x48 at ha
      generalize aa.tmps.getD 49 undef = x49 at ha
      generalize aa.tmps.getD 10 undef = x10 at ha
      clear hv hold hsz hdf
      subst ha
      simp only [List.toList_toArray, List.drop_succ_cons, List.drop_zero, Act.put, List.setIfInBounds_toArray, List.set_cons_succ, List.set_cons_zero]
      have hIM : ∀ x ∈ L.drop j ++ L.take j, x.In := fun x hx => by
        rcases List.mem_append.1 hx with h | h
        · exact hin.out x (List.mem_of_mem_drop h)
        · exact hin.out x (List.mem_of_mem_take h)
      obtain ⟨A5, c5, e5, r5, _⟩ := o50.rt hIM
      obtain ⟨m5, hm5⟩ : ∃ m, m = (L.drop j ++ L.take j).length := ⟨_, rfl⟩
      rw [← hm5] at e5 r5
      subst e5
      have hm5k : m5 = k2 := by rw [hm5, List.length_append, List.length_drop, List.length_take, HW.out.2.1]; omega
      subst hm5k
      have HL := Lib.hid (fun V (hb : Below W.heap.size W V) => (HRL.out.1.on hI).on hb)
      have HM := Lib.hid (fun V (hb : Below W.heap.size W V) => r5.on hb)
      have HB := Lib.hid (HW.out.2.2.2.trans (hI.mono HW.out.2.2.2.size))
      have HIM := Lib.hid hIM
      clear hI o50 r5 hIM hm5 HCU
      have hv1 : rateV (heldR L) = .tuple #[.int .u64 ((minR (heldR L) : Nat) : Int), .bool true] := rateV_yes (by unfold heldR; rw [List.length_map, HW.out.2.1]; omega)
      have hv2 : rateV (heldR (L.drop j ++ L.take j)) = .tuple #[.int .u64 ((minR (heldR L) : Nat) : Int), .bool true] := by
        rw [rateV_yes (by unfold heldR; rw [List.length_map, List.length_append, List.length_drop, List.length_take, HW.out.2.1]; omega), held_turn, minR_turn]
      obtain ⟨u, hu⟩ : ∃ u, u = minR (heldR L) := ⟨_, rfl⟩
      rw [← hu] at hv1 hv2
      have HV := Lib.hid (⟨hv1, hv2, hu⟩ : _ ∧ _ ∧ _)
      clear hv1 hv2 hu
      go_wp2_with fail
      ((with_reducible refine (bd_rate_at (HL.out W (Below.refl _ _)) (by omega) HV.out.1).mono ?_); rintro e w2 ⟨rfl, d2⟩)
      have H2 := Lib.hid d2
      clear d2
      go_wp2_with fail
      ((with_reducible refine (bd_rate_at (HM.out _ H2.out) (by omega) HV.out.2.1).mono ?_); rintro e w3 ⟨rfl, d3⟩)
      have H3 := Lib.hid (H2.out.trans (d3.mono H2.out.size))
      clear d3 H2
      go_wp2_with fail
      ((with_reducible refine (bd_set (HL.out _ H3.out) (by omega)).mono ?_); rintro e w4 ⟨v4, R, rfl, hR, o4, d4⟩)
      have hiR : ∀ a ∈ R, a.In := fun a ha => heldR_in hin.out a (bset_sub hR a ha)
      obtain ⟨A4, c4, e4, r4, _⟩ := o4.rt (unR_in hiR)
      obtain ⟨m4, hm4⟩ : ∃ m, m = R.length := ⟨_, rfl⟩
      rw [List.length_map, ← hm4] at e4 r4
      subst e4
      have H4 := Lib.hid (H3.out.trans (d4.mono H3.out.size))
      have hm4k : m4 ≤ 1000 := by have h1 := bset_len hR; have h2 : (heldR L).length = m5 := by unfold heldR; rw [List.length_map, HW.out.2.1]
                                  omega
      have HR4 := Lib.hid (⟨hR, hm4, r4, hiR⟩ : _ ∧ _ ∧ _ ∧ _)
      clear hR hm4 o4 r4 d4 H3 hiR
      go_wp2_with fail
      have hset : BSet (heldR (L.drop j ++ L.take j)) R := by rw [held_turn]; exact bset_same (turn_mem j) HR4.out.1
      have HS := Lib.hid hset
      clear hset
      ((with_reducible refine (bd_set (HM.out _ H4.out) (by omega)).mono ?_); rintro e w5 hS5)
      obtain ⟨A6, c6, rfl, r6, d5⟩ := setOut_at hS5 HIM.out HS.out HR4.out.2.1.symm
      have H5 := Lib.hid (H4.out.trans (d5.mono H4.out.size))
      have H56 := Lib.hid (⟨HR4.out.2.2.1.on d5, r6⟩ : _ ∧ _)
      clear hS5 r6 d5 H4
      go_wp2_with fail
      ((with_reducible refine (tuples_yes H56.out.1 H56.out.2 (by omega)).mono ?_); rintro e w6 ⟨rfl, d6⟩)
      have H6 := Lib.hid (H5.out.trans (d6.mono H5.out.size))
      clear d6 H5
      go_wp2_with fail
      ((with_reducible refine (bd_set (HL.out _ H6.out) (by omega)).mono ?_); rintro e w7 hS7)
      obtain ⟨A7, c7, rfl, r7, d7⟩ := setOut_at hS7 hin.out HR4.out.1 HR4.out.2.1.symm
      obtain ⟨a, rest, hRa, hleast⟩ := bset_pos HR4.out.1 (fun e => by
        have h2 : (heldR L).length = m5 := by unfold heldR; rw [List.length_map, HW.out.2.1]
        rw [e] at h2
        simp at h2
        omega)
      have hau : a.r = u := by rw [HV.out.2.2]; exact (least_min hleast (heldR_in hin.out a hleast.1)).symm
      have hm40 : 0 < m4 := by rw [HR4.out.2.1, hRa]; simp
      obtain ⟨b, off, hA7, hbb, c0, c1', c2⟩ := r7.at (q := 0) (by rw [List.length_map, hRa]; simp)
      subst hA7
      have c1'' : w7.cell? ⟨b, off + 1, none⟩ = some (.int .u64 (u : Int)) := by
        have e : (R.map unT)[0]'(by rw [List.length_map, hRa]; simp) = unT a := by simp [hRa]
        rw [e] at c1'
        rw [← hau]
        have h9 : w7.cell? ⟨b, off + 0 * 3 + 1, none⟩ = some (.int .u64 (a.r : Int)) := c1'
        simpa using h9
      have H7 := Lib.hid (H6.out.trans (d7.mono H6.out.size))
      clear hS7 r7 d7 c0 c1' c2 hbb hau hRa hleast
      have z4 : (0 : Int) < (m4 : Int) := by omega
      go_wp2_with fail
      ((with_reducible refine (known13_any _).mono ?_); rintro e w8 ⟨rfl, d8⟩)
      have H8 := Lib.hid (H7.out.trans (d8.mono H7.out.size))
      clear d8
      go_wp2_with fail
      go_ret
      exact ⟨rfl, HB.out.trans (H8.out.mono HB.out.size)⟩
end Go.Proofs.Ytlbndhbfmjefeaa
