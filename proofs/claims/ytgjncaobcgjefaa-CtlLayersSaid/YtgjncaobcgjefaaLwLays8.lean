/- CtlLayers' walk. -/
import Derived.Test.YtgjncaobcgjefaaNk
import Derived.Test.YtgjncaobcgjefaaCtT
import Derived.Test.YtgjncaobcgjefaaNb
namespace Go.Proofs.Ytgjncaobcgjefaa.RP
open Go.RowKit
set_option linter.unusedVariables false
set_option linter.unusedSimpArgs false
set_option maxRecDepth 20000

theorem bits_and3 (n : Int) : ∃ k : Nat, bits .and .i64 n 3 = (k : Int) ∧ k ≤ 3 := by
  have h : (BitVec.ofInt 64 n &&& BitVec.ofInt 64 3).toNat ≤ 3 := by
    rw [BitVec.toNat_and, show (BitVec.ofInt 64 3).toNat = 3 by decide]
    exact Nat.and_le_right
  refine ⟨(BitVec.ofInt 64 n &&& BitVec.ofInt 64 3).toNat, ?_, h⟩
  show IntKind.i64.wrap ((BitVec.ofInt 64 n &&& BitVec.ofInt 64 3).toNat : Int) = _
  rw [IntKind.wrap_i64]
  omega
theorem OwnL.empty8 (w : World) (base : Nat) (hb : base ≤ w.heap.size) : OwnL (w.alloc (.cells #[] 46)) base (.slice (some ⟨w.heap.size, 0, none⟩) 0 0) [] := by
  have := World.ownsRow_made (base := base) (e := 46) (size := 3) w #[] 0 hb (Nat.zero_le _) rfl
  exact this
theorem own_set1 {w : World} {base size g c i n m : Nat} {e : TypeId} {xs : List Value} (h : w.ownsRow base e size (.slice (some ⟨g, 0, none⟩) n c) m xs) (hi : i < xs.length) (u : Value) : (w.setCell ⟨g, i, none⟩ u).ownsRow base e size (.slice (some ⟨g, 0, none⟩) n c) m (xs.set i u) := by
  rcases h.2 with ⟨hv, _⟩ | ⟨g', cap, cur, hv, hb, hg, hnc, hm, hs, ht⟩
  · cases hv
  · injection hv with h1 h2 h3
    injection h1 with h1
    injection h1 with h1 _ _
    subst h1 h2 h3
    refine ⟨by simpa using h.1, .inr ⟨g, c, _, rfl, hb, Blk.set_ (w := w) (g := g) hg i u, hnc, hm, by simpa using hs, ?_⟩⟩
    rw [Array.toList_setIfInBounds, List.take_set, ht]
/-- Two layers and more in a row of one's own: where they lie. -/
theorem own_two {w : World} {base m : Nat} {v : Value} {a b : Lay} {t : List Lay} (h : OwnL w base v (a :: b :: t)) (hm : m = (a :: b :: t).length) : ∃ g c, v = .slice (some ⟨g, 0, none⟩) m c ∧ base ≤ g ∧ g < w.heap.size ∧ (∀ i, w.frozen? ⟨g, i, none⟩ = false) ∧
    w.cell? ⟨g, 0, none⟩ = some (.string a.rid) ∧ w.cell? ⟨g, 1, none⟩ = some (.int .u32 (a.ssrc : Int)) ∧ w.cell? ⟨g, 2, none⟩ = some (.int .i64 a.height) ∧ w.cell? ⟨g, 3, none⟩ = some (.string b.rid) ∧ w.cell? ⟨g, 4, none⟩ = some (.int .u32 (b.ssrc : Int)) ∧ w.cell? ⟨g, 5, none⟩ = some (.int .i64 b.height) := by
  subst hm
  unfold OwnL at h
  rcases h.2 with ⟨hv', hn⟩ | ⟨g, cap, cur, hv', hb, hg, hnc, hm, hs, ht⟩
  · simp at hn
  · have hc : ∀ i v, i < 6 → (cellsL (a :: b :: t))[i]? = some v → w.cell? ⟨g, i, none⟩ = some v := fun i v hi hv => by
      rw [cell_of_row w g i cur 46 (0, 0) hg]
      have h1 : (cur.toList.take ((a :: b :: t).length * 3))[i]? = (cellsL (a :: b :: t))[i]? := by rw [ht]
      rw [List.getElem?_take, if_pos (by simp; omega)] at h1
      have h2 : cur[i]? = cur.toList[i]? := by simp
      rw [h2, h1, hv]
    exact ⟨g, cap, hv', hb, (Array.getElem?_eq_some_iff.1 hg).1, fun i => by simp [World.frozen?, hg], hc 0 _ (by omega) rfl, hc 1 _ (by omega) rfl, hc 2 _ (by omega) rfl, hc 3 _ (by omega) rfl, hc 4 _ (by omega) rfl, hc 5 _ (by omega) rfl⟩
theorem swap_own {w : World} {base g m c : Nat} {a0 e0 : ByteArray} {a1 e1 : Nat} {a2 e2 : Int} {t : List Lay} (h : OwnL w base (.slice (some ⟨g, 0, none⟩) m c) (⟨a0, a1, a2⟩ :: ⟨e0, e1, e2⟩ :: t)) :
    OwnL ((((((w.setCell ⟨g, 0, none⟩ (.string e0)).setCell ⟨g, 1, none⟩ (.int .u32 (e1 : Int))).setCell ⟨g, 2, none⟩ (.int .i64 e2)).setCell ⟨g, 3, none⟩ (.string a0)).setCell ⟨g, 4, none⟩ (.int .u32 (a1 : Int))).setCell ⟨g, 5, none⟩ (.int .i64 a2)) base (.slice (some ⟨g, 0, none⟩) m c) (⟨e0, e1, e2⟩ :: ⟨a0, a1, a2⟩ :: t) := by
  have hl : (cellsL (⟨a0, a1, a2⟩ :: ⟨e0, e1, e2⟩ :: t)).length = (t.length + 2) * 3 := by rw [cellsL_len]; rfl
  unfold OwnL at h
  have h1 := own_set1 (i := 0) h (by omega) (.string e0)
  have h2 := own_set1 (i := 1) h1 (by rw [List.length_set]; omega) (.int .u32 (e1 : Int))
  have h3 := own_set1 (i := 2) h2 (by rw [List.length_set, List.length_set]; omega) (.int .i64 e2)
  have h4 := own_set1 (i := 3) h3 (by rw [List.length_set, List.length_set, List.length_set]; omega) (.string a0)
  have h5 := own_set1 (i := 4) h4 (by rw [List.length_set, List.length_set, List.length_set, List.length_set]; omega) (.int .u32 (a1 : Int))
  exact own_set1 (i := 5) h5 (by rw [List.length_set, List.length_set, List.length_set, List.length_set, List.length_set]; omega) (.int .i64 a2)
theorem ssrc_own {w : World} {base g m c : Nat} {a0 e0 : ByteArray} {a1 e1 : Nat} {a2 e2 : Int} {t : List Lay} (h : OwnL w base (.slice (some ⟨g, 0, none⟩) m c) (⟨a0, a1, a2⟩ :: ⟨e0, e1, e2⟩ :: t)) :
    OwnL (w.setCell ⟨g, 4, none⟩ (.int .u32 (a1 : Int))) base (.slice (some ⟨g, 0, none⟩) m c) (⟨a0, a1, a2⟩ :: ⟨e0, a1, e2⟩ :: t) := by
  have hl : (cellsL (⟨a0, a1, a2⟩ :: ⟨e0, e1, e2⟩ :: t)).length = (t.length + 2) * 3 := by rw [cellsL_len]; rfl
  exact own_set1 (i := 4) h (by omega) (.int .u32 (a1 : Int))
theorem rid_own {w : World} {base g m c : Nat} {a0 e0 : ByteArray} {a1 e1 : Nat} {a2 e2 : Int} {t : List Lay} (h : OwnL w base (.slice (some ⟨g, 0, none⟩) m c) (⟨a0, a1, a2⟩ :: ⟨e0, e1, e2⟩ :: t)) :
    OwnL (w.setCell ⟨g, 3, none⟩ (.string a0)) base (.slice (some ⟨g, 0, none⟩) m c) (⟨a0, a1, a2⟩ :: ⟨a0, e1, e2⟩ :: t) := by
  have hl : (cellsL (⟨a0, a1, a2⟩ :: ⟨e0, e1, e2⟩ :: t)).length = (t.length + 2) * 3 := by rw [cellsL_len]; rfl
  exact own_set1 (i := 3) h (by omega) (.string a0)
theorem own_rlm {w : World} {base m c : Nat} {A : Option Addr} {l : List Lay} (h : OwnL w base (.slice A m c) l) (hi : ∀ x ∈ l, x.In) : RL w w.heap.size A m c l := by
  obtain ⟨A', c', hv, hr, _⟩ := h.rl hi
  injection hv with h1 h2 h3
  subst h1 h3
  rwa [← h2] at hr
theorem layE_no {l : List Lay} (h : rightL l = false) : layE l = 26 := by unfold layE; rw [if_neg (by rw [h]; simp)]
set_option maxHeartbeats 8000000 in
theorem ctlLayers_walk (A : Option Addr) (n c : Nat) (p : Int) (w : World) (h : RI w w.heap.size A n c) (hn : n ≤ 281474976710656) (hp : I64 p) :
    Calls Try.prog 5 #[.slice A n c, .int .i64 p] w (Yes w) := by
  have hT := tape_at8 h hn
  have b0 : Below w.heap.size w (w.alloc (.cells #[.slice A n c, .int .i64 0] 28)) := below_alloc w _
  obtain ⟨P, hP, hP3⟩ := bits_and3 p
  clear h
  go_enter Try.func5, Try.ntmps5
  go_wp2_with fail
  refine (tape_layers _ P _ hT (by omega)).mono ?_
  rintro e w1 ⟨A1, c1, l, rfl, hTL, hl1, hl3, hRL, hm, hA1⟩
  have b1 := b0.trans hm.below
  have hright := tapeL_right hTL hl1 hl3
  have hin := hRL.2.1
  clear hT b0 hm hA1 hTL hP
  have hLE : layE l = 0 := by unfold layE; rw [if_pos hright]
  have hC1 := ctl_layers l A1 l.length c1 w1 hRL (by omega)
  rw [hLE] at hC1
  obtain ⟨m, hml⟩ : ∃ m, m = l.length := ⟨_, rfl⟩
  rw [← hml] at hRL hC1 hl1 hl3 ⊢
  have HML := Lib.hid hml
  have HR := Lib.hid hright
  clear hml hright hLE
  go_wp2_with fail
  refine hC1.mono ?_
  rintro e w2 ⟨rfl, b2⟩
  have hRL := hRL.on b2
  have b3 := b1.trans (b2.mono b1.size)
  clear hC1 b2 b1
  have hin2 : ∀ x ∈ l ++ l, x.In := fun x hx => by
    rcases List.mem_append.1 hx with hx | hx <;> exact hin x hx
  have HI2 := Lib.hid hin2
  have HIN := Lib.hid hin
  clear hin hin2
  by_cases hm1 : 1 < m
  case neg =>
    have t1 : decide ((1 : Int) < (m : Int)) = false := by simp; omega
    have be := below_alloc w2 (.cells #[] 46)
    have oe := OwnL.empty8 w2 w2.heap.size (Nat.le_refl _)
    have rle := hRL.on be
    have hse : w2.heap.size ≤ (w2.alloc (.cells #[] 46)).heap.size := be.size
    have hb0 := Lib.hid (show ([] : List Lay).length + m ≤ 1000000 by simp; omega)
    have hb1 := Lib.hid (show ([] ++ l : List Lay).length + m ≤ 1000000 by rw [List.nil_append, ← HML.out]; omega)
    go_wp2_with (at_builtin; first | ((with_reducible refine wpList_appendL rfl (.tmp 67) (.tmp 68) rfl rfl w2.heap.size _ [] (by with_unfolding_all rfl) oe _ A1 m c1 l (by with_unfolding_all rfl) rle hb0.out hse ?_); intro v9 w9 ha9; have bb9 := below_grown be hse ha9.2 (fun k hk => (World.ownsRow.lt oe k hk).1); have rl9 := hRL.on bb9; have hs9 := bb9.size) | ((with_reducible refine wpList_appendL rfl (.tmp 69) (.tmp 70) rfl rfl w2.heap.size _ ([] ++ l) (by with_unfolding_all rfl) ha9.1 _ A1 m c1 l (by with_unfolding_all rfl) rl9 hb1.out hs9 ?_); intro va wa haa))
    have bba := below_grown bb9 hs9 haa.2 (fun k hk => (World.ownsRow.lt ha9.1 k hk).1)
    have oa := haa.1
    rw [List.nil_append] at oa
    obtain ⟨Aa, ca, hva, rla, _⟩ := oa.rl HI2.out
    subst hva
    have hC := ctl_layers (l ++ l) Aa _ ca wa rla (by rw [List.length_append, ← HML.out]; omega)
    rw [show layE (l ++ l) = 26 by unfold layE; rw [if_neg (by rw [twice_no]; simp)]] at hC
    have bE := b3.trans (bba.mono b3.size)
    clear ha9 haa oa rla rl9 rle oe be hse hs9 bb9 bba
    refine hC.mono ?_
    rintro e' wb ⟨rfl, bb⟩
    have bF := bE.trans (bb.mono bE.size)
    clear hC bb bE
    go_wp2_with fail
    refine (known8 _).mono ?_
    rintro e' wc ⟨rfl, bc⟩
    have bG := bF.trans (bc.mono bF.size)
    clear bc bF
    go_wp2_with fail
    go_ret
    exact ⟨rfl, bG⟩
  have t1 : decide ((1 : Int) < (m : Int)) = true := by simp; omega
  have be := below_alloc w2 (.cells #[] 46)
  have oe := OwnL.empty8 w2 w2.heap.size (Nat.le_refl _)
  have rle := hRL.on be
  have hse : w2.heap.size ≤ (w2.alloc (.cells #[] 46)).heap.size := be.size
  have hb0 := Lib.hid (show ([] : List Lay).length + m ≤ 1000000 by simp; omega)
  go_wp2_with (at_builtin; ((with_reducible refine wpList_appendL rfl (.tmp 21) (.tmp 22) rfl rfl w2.heap.size _ [] (by with_unfolding_all rfl) oe _ A1 m c1 l (by with_unfolding_all rfl) rle hb0.out hse ?_); intro v3 w3 ha3))
  have bb3 := below_grown be hse ha3.2 (fun k hk => (World.ownsRow.lt oe k hk).1)
  have o3 := ha3.1
  rw [List.nil_append] at o3
  have rl3 := hRL.on bb3
  have b4 := b3.trans (bb3.mono b3.size)
  obtain ⟨a, b, t, hlt⟩ : ∃ a b t, l = a :: b :: t := by
    rcases l with _ | ⟨a, _ | ⟨b, t⟩⟩
    · have := HML.out; simp at this; omega
    · have := HML.out; simp at this; omega
    · exact ⟨a, b, t, rfl⟩
  have HLT := Lib.hid hlt
  rw [hlt] at o3
  obtain ⟨gx, cx, hvx, hgx, hgxl, fx, k0, k1, k2, k3, k4, k5⟩ := own_two o3 (m := m) (by rw [HML.out, hlt])
  subst hvx
  clear ha3 oe rle be hse hb0 hlt rl3 b4
  have i1 : decide ((1 : Int) < (m : Int)) = true := t1
  have i0 : decide ((0 : Int) < (m : Int)) = true := by simp; omega
  have j1 : (1 : Int) < (m : Int) := by omega
  have j0 : (0 : Int) < (m : Int) := by omega
  have n1 : ¬ (m : Int) ≤ 1 := by omega
  have n0 : ¬ (m : Int) ≤ 0 := by omega
  have q0 := fx 0
  have q1 := fx 1
  have q2 := fx 2
  have q3 := fx 3
  have q4 := fx 4
  have q5 := fx 5
  obtain ⟨a0, a1, a2⟩ := a
  obtain ⟨e0, e1, e2⟩ := b
  simp only at k0 k1 k2 k3 k4 k5
  clear fx
  go_region
  have o6 := swap_own o3
  have b6 : Below w2.heap.size w2 ((((((w3.setCell ⟨gx, 0, none⟩ (.string e0)).setCell ⟨gx, 1, none⟩ (.int .u32 (e1 : Int))).setCell ⟨gx, 2, none⟩ (.int .i64 e2)).setCell ⟨gx, 3, none⟩ (.string a0)).setCell ⟨gx, 4, none⟩ (.int .u32 (a1 : Int))).setCell ⟨gx, 5, none⟩ (.int .i64 a2)).drew := ((((((bb3.setCell (p := ⟨gx, 0, none⟩) hgx _).setCell (p := ⟨gx, 1, none⟩) hgx _).setCell (p := ⟨gx, 2, none⟩) hgx _).setCell (p := ⟨gx, 3, none⟩) hgx _).setCell (p := ⟨gx, 4, none⟩) hgx _).setCell (p := ⟨gx, 5, none⟩) hgx _).drew
  have o6 := World.ownsRow.drew o6
  generalize ((((((w3.setCell ⟨gx, 0, none⟩ (.string e0)).setCell ⟨gx, 1, none⟩ (.int .u32 (e1 : Int))).setCell ⟨gx, 2, none⟩ (.int .i64 e2)).setCell ⟨gx, 3, none⟩ (.string a0)).setCell ⟨gx, 4, none⟩ (.int .u32 (a1 : Int))).setCell ⟨gx, 5, none⟩ (.int .i64 a2)).drew = V6 at o6 b6 ⊢
  have HM2 : Hid (m = (⟨a0, a1, a2⟩ :: ⟨e0, e1, e2⟩ :: t : List Lay).length) := Lib.hid (by rw [HML.out, HLT.out])
  have hia : (⟨a0, a1, a2⟩ : Lay).In := HIN.out _ (by rw [HLT.out]; simp)
  have hib : (⟨e0, e1, e2⟩ : Lay).In := HIN.out _ (by rw [HLT.out]; simp)
  have hit : ∀ x ∈ t, x.In := fun x hx => HIN.out _ (by rw [HLT.out]; simp [hx])
  have HRT := Lib.hid (show rightL (⟨a0, a1, a2⟩ :: ⟨e0, e1, e2⟩ :: t) = true by rw [← HLT.out]; exact HR.out)
  have rx := own_rlm o6 (fun x hx => by
    simp only [List.mem_cons] at hx
    rcases hx with rfl | rfl | hx
    · exact hib
    · exact hia
    · exact hit x hx)
  have HIA := Lib.hid hia
  have HIB := Lib.hid hib
  have HIT := Lib.hid hit
  clear hia hib hit o6 o3 bb3 k0 k1 k2 k3 k4 k5 q0 q1 q2 q3 q4 q5 hgx hgxl
  have be := below_alloc V6 (.cells #[] 46)
  have oe := OwnL.empty8 V6 V6.heap.size (Nat.le_refl _)
  have rle := (hRL.on b6).on be
  have hse : V6.heap.size ≤ (V6.alloc (.cells #[] 46)).heap.size := be.size
  have hb0 := Lib.hid (show ([] : List Lay).length + m ≤ 1000000 by simp; omega)
  go_upto_region 9 with (at_builtin; ((with_reducible refine wpList_appendL rfl (.tmp 34) (.tmp 35) rfl rfl V6.heap.size _ [] (by with_unfolding_all rfl) oe _ A1 m c1 l (by with_unfolding_all rfl) rle hb0.out hse ?_); intro vy wy hay; have bby := below_grown be hse hay.2 (fun k hk => (World.ownsRow.lt oe k hk).1); have oy := hay.1; rw [List.nil_append, HLT.out] at oy; obtain ⟨gy, cy, hvy, hgy, hgly, fy, y0, y1, y2, y3, y4, y5⟩ := own_two oy (m := m) HM2.out; subst hvy; have qy := fy 4; clear fy hay rle oe be hse hb0; simp only at y0 y1 y2 y3 y4 y5))
  have oy' := ssrc_own oy
  have bby' := bby.setCell (p := ⟨gy, 4, none⟩) hgy (.int .u32 (a1 : Int))
  generalize wy.setCell ⟨gy, 4, none⟩ (.int .u32 (a1 : Int)) = Vy at oy' bby' ⊢
  clear oy bby y0 y1 y2 y3 y4 y5 qy hgly
  have ry := own_rlm oy' (fun x hx => by
    simp only [List.mem_cons] at hx
    rcases hx with rfl | rfl | hx
    · exact HIA.out
    · exact ⟨HIB.out.rid, HIA.out.ssrc, HIB.out.height⟩
    · exact HIT.out x hx)
  have b8 := b6.trans (bby'.mono b6.size)
  have rx := rx.on bby'
  clear oy' bby' b6 hgy
  have be := below_alloc Vy (.cells #[] 46)
  have oe := OwnL.empty8 Vy Vy.heap.size (Nat.le_refl _)
  have rle := (hRL.on b8).on be
  have hse : Vy.heap.size ≤ (Vy.alloc (.cells #[] 46)).heap.size := be.size
  have hb0 := Lib.hid (show ([] : List Lay).length + m ≤ 1000000 by simp; omega)
  go_upto_region 11 with (at_builtin; ((with_reducible refine wpList_appendL rfl (.tmp 44) (.tmp 45) rfl rfl Vy.heap.size _ [] (by with_unfolding_all rfl) oe _ A1 m c1 l (by with_unfolding_all rfl) rle hb0.out hse ?_); intro vz wz haz; have bbz := below_grown be hse haz.2 (fun k hk => (World.ownsRow.lt oe k hk).1); have oz := haz.1; rw [List.nil_append, HLT.out] at oz; obtain ⟨gz, cz, hvz, hgz, hglz, fz, z0, z1, z2, z3, z4, z5⟩ := own_two oz (m := m) HM2.out; subst hvz; have qz := fz 3; clear fz haz rle oe be hse hb0; simp only at z0 z1 z2 z3 z4 z5))
  have oz' := rid_own oz
  have bbz' := bbz.setCell (p := ⟨gz, 3, none⟩) hgz (.string a0)
  generalize wz.setCell ⟨gz, 3, none⟩ (.string a0) = Vz at oz' bbz' ⊢
  clear oz bbz z0 z1 z2 z3 z4 z5 qz hglz
  have rz := own_rlm oz' (fun x hx => by
    simp only [List.mem_cons] at hx
    rcases hx with rfl | rfl | hx
    · exact HIA.out
    · exact ⟨HIA.out.rid, HIB.out.ssrc, HIB.out.height⟩
    · exact HIT.out x hx)
  have bA := b8.trans (bbz'.mono b8.size)
  have rx := rx.on bbz'
  have ry := ry.on bbz'
  clear oz' bbz' b8 hgz
  have hL1 := ctl_layers _ _ _ _ Vz rx (by omega)
  rw [layE_no (swap_no HRT.out)] at hL1
  go_wp2_with fail
  refine hL1.mono ?_
  rintro e' W1 ⟨rfl, bb1⟩
  have hL2 := ctl_layers _ _ _ _ W1 (ry.on bb1) (by omega)
  rw [layE_no (show rightL (⟨a0, a1, a2⟩ :: ⟨e0, a1, e2⟩ :: t) = false from ssrc_no (a := ⟨a0, a1, a2⟩) (b := ⟨e0, e1, e2⟩))] at hL2
  have rz := rz.on bb1
  have bB := bA.trans (bb1.mono bA.size)
  clear hL1 bb1 bA rx ry
  go_wp2_with fail
  refine hL2.mono ?_
  rintro e' W2 ⟨rfl, bb2⟩
  have hL3 := ctl_layers _ _ _ _ W2 (rz.on bb2) (by omega)
  rw [layE_no (show rightL (⟨a0, a1, a2⟩ :: ⟨a0, e1, e2⟩ :: t) = false from rid_no (a := ⟨a0, a1, a2⟩) (b := ⟨e0, e1, e2⟩))] at hL3
  have bC := bB.trans (bb2.mono bB.size)
  clear hL2 bb2 bB rz
  go_wp2_with fail
  refine hL3.mono ?_
  rintro e' W3 ⟨rfl, bb3⟩
  have bD := bC.trans (bb3.mono bC.size)
  have hRL := hRL.on bD
  have bE0 := b3.trans (bD.mono b3.size)
  clear hL3 bb3 bC bD b3
  have be := below_alloc W3 (.cells #[] 46)
  have oe := OwnL.empty8 W3 W3.heap.size (Nat.le_refl _)
  have rle := hRL.on be
  have hse : W3.heap.size ≤ (W3.alloc (.cells #[] 46)).heap.size := be.size
  have hb0 := Lib.hid (show ([] : List Lay).length + m ≤ 1000000 by simp; omega)
  have hb1 := Lib.hid (show ([] ++ l : List Lay).length + m ≤ 1000000 by rw [List.nil_append, ← HML.out]; omega)
  go_wp2_with (at_builtin; first | ((with_reducible refine wpList_appendL rfl (.tmp 67) (.tmp 68) rfl rfl W3.heap.size _ [] (by with_unfolding_all rfl) oe _ A1 m c1 l (by with_unfolding_all rfl) rle hb0.out hse ?_); intro v9 w9 ha9; have bb9 := below_grown be hse ha9.2 (fun k hk => (World.ownsRow.lt oe k hk).1); have rl9 := hRL.on bb9; have hs9 := bb9.size) | ((with_reducible refine wpList_appendL rfl (.tmp 69) (.tmp 70) rfl rfl W3.heap.size _ ([] ++ l) (by with_unfolding_all rfl) ha9.1 _ A1 m c1 l (by with_unfolding_all rfl) rl9 hb1.out hs9 ?_); intro va wa haa))
  have bba := below_grown bb9 hs9 haa.2 (fun k hk => (World.ownsRow.lt ha9.1 k hk).1)
  have oa := haa.1
  rw [List.nil_append] at oa
  obtain ⟨Aa, ca, hva, rla, _⟩ := oa.rl HI2.out
  subst hva
  have hC := ctl_layers (l ++ l) Aa _ ca wa rla (by rw [List.length_append, ← HML.out]; omega)
  rw [show layE (l ++ l) = 26 by unfold layE; rw [if_neg (by rw [twice_no]; simp)]] at hC
  have bE := bE0.trans (bba.mono bE0.size)
  clear ha9 haa oa rla rl9 rle oe be hse hs9 bb9 bba
  refine hC.mono ?_
  rintro e' wb ⟨rfl, bb⟩
  have bF := bE.trans (bb.mono bE.size)
  clear hC bb bE
  go_wp2_with fail
  refine (known8 _).mono ?_
  rintro e' wc ⟨rfl, bc⟩
  have bG := bF.trans (bc.mono bF.size)
  clear bc bF
  go_wp2_with fail
  go_ret
  exact ⟨rfl, bG⟩
end Go.Proofs.Ytgjncaobcgjefaa.RP
