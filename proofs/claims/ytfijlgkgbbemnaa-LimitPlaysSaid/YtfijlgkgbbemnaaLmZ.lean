/- Law 14's helper: play, of any asks. -/
import Derived.Test.YtfijlgkgbbemnaaLmY
import Derived.Test.YtfijlgkgbbemnaaLmK
import Derived.Test.YtfijlgkgbbemnaaLmE
import Derived.Test.YtfijlgkgbbemnaaLmQ
import Derived.Test.YtfijlgkgbbemnaaRegP
namespace Go.Proofs.Ytfijlgkgbbemnaa.RP
open Go.RowKit
set_option linter.unusedVariables false
set_option linter.unusedSimpArgs false
set_option maxRecDepth 20000

def plF (w0 : World) (ga : Nat) (x : Ask) : Frame where
  I := fun W => w0.heap.size ≤ W.heap.size ∧ Blk W ga 34 x.cells.toArray
  Fr := fun a b => Below a.heap.size a b
  refl := fun w _ => Below.refl _ w
  trans := fun a b c h k => h.trans (k.mono h.size)
  drew := fun W h => ⟨⟨Nat.le_trans h.1 (belowDrewN W 1).size, ((belowDrewN W 1).block ga h.2.lt).trans h.2⟩, belowDrewN W 1⟩
def plC (w0 : World) (G : Nat) (rb : Option Nat) (E : Ents) (Gr : Nat) (rb2 : Option Nat) (E2 : Ents) (c ga : Nat) (x : Ask) (u : Value) : ClF (plF w0 ga x) := .pred (fun v W => v = u ∧ ∃ S v1 v2, PlS w0 G rb E S Gr rb2 E2 v1 v2 c ga x W) (fun v a b _ hf _ h => by
  obtain ⟨e, S, v1, v2, h1⟩ := h
  exact ⟨e, S, v1, v2, h1.on hf⟩)
theorem plC_of {w0 : World} {G : Nat} {rb : Option Nat} {E : Ents} {Gr : Nat} {rb2 : Option Nat} {E2 : Ents} {c ga : Nat} {x : Ask} {u : Value} {cl : ClF (plF w0 ga x)} {v : Value} {W : World} (h : cl.holds v W) (e : cl = plC w0 G rb E Gr rb2 E2 c ga x u) : v = u ∧ ∃ S v1 v2, PlS w0 G rb E S Gr rb2 E2 v1 v2 c ga x W := by subst e; exact h
theorem rb_hi {r : Nat} (h : (1099511627776 : Int) < IntKind.u64.wrap ((r : Int) / 8)) (hr : r < 18446744073709551616) : wrap64 1099511627776 = ((btR r : Nat) : Int) := by
  rw [IntKind.wrap_u64] at h
  unfold wrap64 btR
  omega
theorem rb_lo {r : Nat} (h : IntKind.u64.wrap ((r : Int) / 8) ≤ 1099511627776) (hr : r < 18446744073709551616) : wrap64 (IntKind.u64.wrap ((r : Int) / 8)) = ((btR r : Nat) : Int) := by
  rw [IntKind.wrap_u64] at h ⊢
  unfold wrap64 btR
  omega
def RowIs (l : List Tup) (w : World) (e : Ending) (w' : World) : Prop := ∃ A c, e = .returned (.slice A l.length c) ∧ RT w' w'.heap.size A l.length c l ∧ Below w.heap.size w w'
theorem RowIs.of {l : List Tup} {w w' : World} {e : Ending} (hi : ∀ t ∈ l, t.In) (h : RowOut w l e w') : RowIs l w e w' := by
  obtain ⟨v, rfl, o, b⟩ := h
  obtain ⟨A, c, rfl, r, _⟩ := o.rt hi
  exact ⟨A, c, rfl, r, b⟩
def SetIs (l : List Tup) (w : World) (e : Ending) (w' : World) : Prop := ∃ R A c, BSet (heldR l) R ∧ e = .returned (.slice A (R.map unT).length c) ∧ RT w' w'.heap.size A (R.map unT).length c (R.map unT) ∧ Below w.heap.size w w'
theorem SetIs.of {l : List Tup} {w w' : World} {e : Ending} (hi : ∀ t ∈ l, t.In) (h : SetOut l w e w') : SetIs l w e w' := by
  obtain ⟨v, R, rfl, hR, o, b⟩ := h
  obtain ⟨A, c, rfl, r, _⟩ := o.rt (unR_in (fun a ha => heldR_in hi a (bset_sub hR a ha)))
  exact ⟨R, A, c, hR, rfl, r, b⟩
def rowC (l : List Tup) : Cl := .pred (fun v W => ∃ A c, v = .slice A l.length c ∧ RT W W.heap.size A l.length c l) (fun v w w' hb h => by
  obtain ⟨A, c, e, r⟩ := h
  exact ⟨A, c, e, r.on hb⟩)
theorem rowC_of {l : List Tup} {c : Cl} {v : Value} {W : World} (h : c.holds v W) (e : c = rowC l) : ∃ A c, v = .slice A l.length c ∧ RT W W.heap.size A l.length c l := by subst e; exact h
theorem rowC_ret {l : List Tup} {c : Cl} {w w' : World} {e : Ending} (hc : c = rowC l) (h : RowIs l w e w') : ∃ v, e = .returned v ∧ Below w.heap.size w w' ∧ c.holds v w' := by
  subst hc
  obtain ⟨A, k, rfl, r, b⟩ := h
  exact ⟨_, rfl, b, A, k, rfl, r⟩
def setC (l : List Tup) : Cl := .pred (fun v W => ∃ R A c, BSet (heldR l) R ∧ v = .slice A (R.map unT).length c ∧ RT W W.heap.size A (R.map unT).length c (R.map unT)) (fun v w w' hb h => by
  obtain ⟨R, A, c, hR, e, r⟩ := h
  exact ⟨R, A, c, hR, e, r.on hb⟩)
theorem setC_of {l : List Tup} {c : Cl} {v : Value} {W : World} (h : c.holds v W) (e : c = setC l) : ∃ R A c, BSet (heldR l) R ∧ v = .slice A (R.map unT).length c ∧ RT W W.heap.size A (R.map unT).length c (R.map unT) := by subst e; exact h
theorem setC_ret {l : List Tup} {c : Cl} {w w' : World} {e : Ending} (hc : c = setC l) (h : SetIs l w e w') : ∃ v, e = .returned v ∧ Below w.heap.size w w' ∧ c.holds v w' := by
  subst hc
  obtain ⟨R, A, k, hR, rfl, r, b⟩ := h
  exact ⟨_, rfl, b, R, A, k, hR, rfl, r⟩
theorem set_small {E : Ents} {R : List Ln} (hE : EntsOk E) (hR : BSet (heldR E.T) R) : (R.map unT).length ≤ 1000000 := by
  have h1 := bset_len hR
  have h2 : (heldR E.T).length = E.T.length := List.length_map ..
  have h3 := E.T_len
  have h4 := hE.len
  rw [List.length_map]
  omega
theorem sets_yes {E : Ents} {R R' : List Ln} {A A' : Option Addr} {c c' : Nat} {w : World} (hE : EntsOk E) (hR : BSet (heldR E.T) R) (hR' : BSet (heldR E.T) R') (h : RT w w.heap.size A (R.map unT).length c (R.map unT)) (h' : RT w w.heap.size A' (R'.map unT).length c' (R'.map unT)) :
    Calls Try.prog 26 #[.slice A (R.map unT).length c, .slice A' (R'.map unT).length c'] w (Yes w) := by
  have e := bset_one hR' hR
  subst e
  exact tuples_yes h h' (set_small hE hR)
def Pl14 (w0 : World) (G Gr c : Nat) (W : World) : Prop := ∃ rb E S v1 v2, LmS w0 G rb E S Gr rb E v1 v2 c W
def Mid14 (w0 : World) (G Gr c ga : Nat) (x : Ask) (W : World) : Prop := ∃ rb E S v1 v2, PlS w0 G rb E S Gr rb E v1 v2 c ga x W
set_option maxHeartbeats 8000000 in
theorem play_any (ca : Int) (hca : I64 ca) (A : Option Addr) (n c : Nat) (asks : List Ask) (w : World) (h : RA w w.heap.size A n c asks) (hn : n ≤ 3518437208882) :
    Calls Try.prog 10 #[.int .i64 ca, .slice A n c] w (Yes w) := by
  have HI := Lib.hid (⟨h.1, h.2.1⟩ : asks.length = n ∧ ∀ x ∈ asks, x.In)
  have HR := Lib.hid (fun W (hb : Below w.heap.size w W) => h.below hb)
  clear h
  go_enter Try.func10, Try.ntmps10
  go_wp2_with fail
  ((with_reducible refine (lm_new ca hca _).mono ?_); rintro e w1 ⟨G, S, rfl, p1, hS, b1⟩)
  have P1 := Lib.hid (⟨p1, hS, b1⟩ : _ ∧ _ ∧ _)
  clear p1 hS b1
  go_wp2_with fail
  ((with_reducible refine (ref_newL ca hca _).mono ?_); rintro e w2 ⟨Gr, rfl, p2, hG, b2⟩)
  obtain ⟨c0, hc0⟩ : ∃ k, capN ca = k := ⟨_, rfl⟩
  have hcl := capN_le ca
  rw [hc0] at p2 P1 hcl
  have HP : Hid (Pl14 w G Gr c0 w2) := Lib.hid ⟨none, [], S, _, _, ⟨P1.out.1.keep (OnlyS.of (S := fun _ => False) b2) (fun _ _ h => h), p2, EntsOk.nil, SortE.nil, EntsOk.nil, hcl.2, rb_none, rb_none, (fun k hk hr => by
    rcases hr with h | h | h
    · subst h
      have := P1.out.1.lt hk
      omega
    · cases h
    · cases h), P1.out.2.1, (fun k hr => by
    rcases hr with h | h | h
    · subst h
      exact Nat.le_trans P1.out.2.2.size hG
    · cases h
    · cases h), P1.out.2.2.trans (b2.mono P1.out.2.2.size)⟩⟩
  clear p2 hG b2 P1 hcl hc0
  go_wp2_with fail
  go_loopw [7] (fun i wr => ∃ q : Nat, q ≤ n ∧ q ≤ 100 ∧ i = .int .i64 (q : Int) ∧ Hid (Pl14 w G Gr c0 wr)) (fun i _ => 100 - (intOf i).toNat)
  case atStart => exact ⟨0, by omega, by omega, rfl, HP⟩
  case round =>
    obtain ⟨q, hqn, hq, rfl, HQ⟩ := hrel
    clear HP
    by_cases hlt : q < n ∧ q < 100
    · obtain ⟨hl1, hl2⟩ := hlt
      have g1 : decide ((q : Int) < (n : Int)) = true := by simp; omega
      have g2 : decide ((q : Int) < 100) = true := by simp; omega
      have g3 : (q : Int) < (n : Int) := by omega
      obtain ⟨rb, E, S0, v1, v2, hs⟩ := HQ.out
      have hql : q < asks.length := by rw [HI.out.1]; exact hl1
      obtain ⟨b, off, rfl, hb, c0', c1, c2, c3, c4⟩ := (HR.out wr hs.below).at (q := q) hql
      have hxi := HI.out.2 asks[q] (List.getElem_mem hql)
      generalize asks[q] = x at c0' c1 c2 c3 c4 hxi
      obtain ⟨kd, ⟨xo, xr, xv⟩, nn⟩ := x
      replace c0' : wr.cell? ⟨b, off + q * 5, none⟩ = some (.int .i64 kd) := c0'
      replace c1 : wr.cell? ⟨b, off + q * 5 + 1, none⟩ = some (.int .u32 (xo : Int)) := c1
      replace c2 : wr.cell? ⟨b, off + q * 5 + 2, none⟩ = some (.int .u64 (xr : Int)) := c2
      replace c3 : wr.cell? ⟨b, off + q * 5 + 3, none⟩ = some (.int .i64 xv) := c3
      replace c4 : wr.cell? ⟨b, off + q * 5 + 4, none⟩ = some (.int .i64 nn) := c4
      have HX : Hid (Ask.In ⟨kd, ⟨xo, xr, xv⟩, nn⟩) := Lib.hid hxi
      have H0 : Hid (PlS w G rb E S0 Gr rb E v1 v2 c0 wr.heap.size ⟨kd, ⟨xo, xr, xv⟩, nn⟩ (wr.alloc (.cells #[.int .i64 kd, .int .u32 (xo : Int), .int .u64 (xr : Int), .int .i64 xv, .int .i64 nn] 34))) := Lib.hid ⟨hs.on (belowA wr _), Blk.new _ _ _, (fun hk => by have := hs.lm.lt hk; omega), (fun hk => by have := hs.rl.lt hk; omega), hs.below.size⟩
      clear hs hb hxi HQ hql
      go_upto_region 6 with (fail)
      clear c0' c1 c2 c3 c4 g1 g2 g3
      generalize wr.alloc (.cells #[.int .i64 kd, .int .u32 (xo : Int), .int .u64 (xr : Int), .int .i64 xv, .int .i64 nn] 34) = W at H0 ⊢
      generalize wr.heap.size = ga at H0 ⊢
      have e0 : W.cell? ⟨ga, 0, none⟩ = some (.int .i64 kd) := H0.out.blk.cell 0
      have e2 : W.cell? ⟨ga, 2, none⟩ = some (.int .u64 (xr : Int)) := H0.out.blk.cell 2
      go_upto_block 2 with (fail)
      go_cut [4] from 31 to 71 (fun _ wx => Hid (Mid14 w G Gr c0 ga ⟨kd, ⟨xo, xr, xv⟩, nn⟩ wx))
      case first =>
        by_cases k3 : kd = 3
        · subst k3
          go_wp2_with fail
          ((with_reducible refine (pl_remb H0.out HX.out.t).mono ?_); rintro e W2 ⟨rfl, S2, h2⟩)
          have H2 := Lib.hid h2
          clear h2 e0 e2
          have f2 : W2.cell? ⟨ga, 2, none⟩ = some (.int .u64 (xr : Int)) := H2.out.blk.cell 2
          -- REMB
          obtain ⟨⟨_, k1, _, _⟩, fz⟩ := H2.out.lms.rl.cells
          have f1 := fz 1
          clear fz
          go_upto_region 13 with (fail)
          go_wp2_with fail
          · go_meet
            rw [rb_hi h HX.out.t.rate]
            exact Lib.hid ⟨some (btR xr), E, S2, v1, v2, H2.out.remb (btR_le xr)⟩
          · go_meet
            rw [rb_lo h HX.out.t.rate]
            exact Lib.hid ⟨some (btR xr), E, S2, v1, v2, H2.out.remb (btR_le xr)⟩
        · have d3 : ((kd : Int) == 3) = false := by simp; omega
          by_cases k45 : kd = 4 ∨ kd = 5
          · clear e2
            -- TICK
            rcases k45 with rfl | rfl
            · clear d3
              go_upto_region 16 with (fail)
              clear e0
              refine wp_region_d (F := plF w ga ⟨4, ⟨xo, xr, xv⟩, nn⟩) (fun j v => (j = 3 → v = .int .i64 ((E.length - (tickE E nn).length : Nat) : Int)) ∧ (j = 7 → v = .int .i64 ((E.length - (tickE E nn).length : Nat) : Int))) (fun k j => k == 7 && j == 3) (fun i => i == 3 || i == 7) (fun i W => if i = 3 then PlS w G rb E S0 Gr rb E v1 v2 c0 ga ⟨4, ⟨xo, xr, xv⟩, nn⟩ W else True) 8
                [.val (.pointer (some ⟨G, 0, none⟩)), .val (.pointer (some ⟨ga, 4, none⟩)), .val (.int .i64 nn), plC w G rb (tickE E nn) Gr rb E c0 ga ⟨4, ⟨xo, xr, xv⟩, nn⟩ (.int .i64 ((E.length - (tickE E nn).length : Nat) : Int)), .val (.pointer (some ⟨Gr, 0, none⟩)), .val (.pointer (some ⟨ga, 4, none⟩)), .val (.int .i64 nn), plC w G rb (tickE E nn) Gr rb (tickE E nn) c0 ga ⟨4, ⟨xo, xr, xv⟩, nn⟩ (.int .i64 ((E.length - (tickE E nn).length : Nat) : Int))]
                (fun j v W h => ⟨fun e => by subst e; exact h.1, fun e => by subst e; exact h.1⟩) (by kernel_rfl) (by kernel_rfl) (by kernel_rfl) (by decide) (by kernel_rfl) ⟨H0.out.lms.below.size, H0.out.blk⟩ (fun i hi => ?_) (fun i a b _ _ hf _ hp' => ?_) (AllOblD.upto ⟨?_, ?_, ?_, ?_, ?_, ?_, ?_, ?_, trivial⟩) ?_ ?_
              · by_cases h2 : i = 3
                · simp only [h2, if_true]
                  exact H0.out.on (belowDrewN W 1)
                · simp only [h2, if_false]
              · by_cases h2 : i = 3
                · simp only [h2, if_true] at hp' ⊢
                  exact hp'.on hf
                · simp only [h2, if_false]
              · intro _
                exact OblD.move rfl _ (Or.inl rfl) (by kernel_rfl) rfl
              · intro _
                refine OblD.pure rfl (.pointer (some ⟨ga, 4, none⟩)) (by kernel_rfl) rfl fun ev W hI hx => ?_
                have e8 : ev (.tmp 8) = .pointer (some ⟨ga, 0, none⟩) := holds_valF (hx (.tmp 8)) (by kernel_rfl)
                simp [execOp, e8, go_sem]
              · intro _
                refine OblD.pure rfl (.int .i64 nn) (by kernel_rfl) rfl fun ev W hI hx => ?_
                have e8 : ev (.tmp 64) = .pointer (some ⟨ga, 4, none⟩) := holds_valF (hx (.tmp 64)) (by kernel_rfl)
                have d4 : W.cell? ⟨ga, 4, none⟩ = some (.int .i64 nn) := hI.2.cell 4
                simp [execOp, e8, go_sem, d4]
              · exact fun hh => absurd hh (by decide)
              · intro _
                exact OblD.move rfl _ (Or.inl rfl) (by kernel_rfl) rfl
              · intro _
                refine OblD.pure rfl (.pointer (some ⟨ga, 4, none⟩)) (by kernel_rfl) rfl fun ev W hI hx => ?_
                have e8 : ev (.tmp 8) = .pointer (some ⟨ga, 0, none⟩) := holds_valF (hx (.tmp 8)) (by kernel_rfl)
                simp [execOp, e8, go_sem]
              · intro _
                refine OblD.pure rfl (.int .i64 nn) (by kernel_rfl) rfl fun ev W hI hx => ?_
                have e8 : ev (.tmp 68) = .pointer (some ⟨ga, 4, none⟩) := holds_valF (hx (.tmp 68)) (by kernel_rfl)
                have d4 : W.cell? ⟨ga, 4, none⟩ = some (.int .i64 nn) := hI.2.cell 4
                simp [execOp, e8, go_sem, d4]
              · exact fun hh => absurd hh (by decide)
              · intro i oo him hsp hoo
                have hi2 : i = 3 ∨ i = 7 := by simpa using hsp
                rcases hi2 with hi2 | hi2
                · subst hi2
                  obtain rfl := (Option.some.inj hoo).symm
                  refine OblDX.call rfl 17 #[.tmp 63, .tmp 65] _ rfl Try.f17 Try.func17 (by kernel_rfl) (by kernel_rfl) rfl fun ev W hI hpre hx => ?_
                  have hpre : PlS w G rb E S0 Gr rb E v1 v2 c0 ga ⟨4, ⟨xo, xr, xv⟩, nn⟩ W := hpre
                  have e63 : ev (.tmp 63) = .pointer (some ⟨G, 0, none⟩) := holds_valF (hx (.tmp 63)) (by kernel_rfl)
                  have e65 : ev (.tmp 65) = .int .i64 nn := holds_valF (hx (.tmp 65)) (by kernel_rfl)
                  simp only [List.map_toArray, List.map_cons, List.map_nil, e63, e65]
                  refine (pl_tick hpre HX.out.n).mono ?_
                  rintro e W' ⟨rfl, S', hp'⟩
                  refine ⟨_, rfl, ⟨hp'.lms.below.size, hp'.blk⟩, ?_, ?_, ⟨rfl, S', v1, v2, hp'⟩⟩
                  · intro j uu hj hd hdep hh
                    by_cases hj9 : j < 8
                    · have : j = 0 ∨ j = 1 ∨ j = 2 ∨ j = 3 ∨ j = 4 ∨ j = 5 ∨ j = 6 ∨ j = 7 := by omega
                      rcases this with rfl | rfl | rfl | rfl | rfl | rfl | rfl | rfl
                      · exact hh
                      · exact hh
                      · exact hh
                      · first | exact absurd hj (by decide) | exact absurd hd (by decide) | exact absurd ((hdep.symm).trans (by kernel_rfl : _ = true)) (by decide) | simp at hj
                      · exact hh
                      · exact hh
                      · exact hh
                      · exact absurd ((hdep.symm).trans (by kernel_rfl : _ = true)) (by decide)
                    · rw [tbl_outF (n := 8) rfl (by omega)]
                      trivial
                  · intro j hj hsj hdn hpj
                    simp only [hj, if_false]
                · subst hi2
                  obtain rfl := (Option.some.inj hoo).symm
                  refine OblDX.callD rfl 23 #[.tmp 67, .tmp 69] _ rfl Try.f23 Try.func23 (by kernel_rfl) (by kernel_rfl) rfl fun aw W hI hpre hx hdp => ?_
                  obtain ⟨_, S1, u1, u2, hp1⟩ := (hdp 3 (by decide) (by kernel_rfl) (by kernel_rfl) : _ = _ ∧ ∃ S v1 v2, PlS w G rb (tickE E nn) S Gr rb E v1 v2 c0 ga ⟨4, ⟨xo, xr, xv⟩, nn⟩ W)
                  have e67 : aw.eval (.tmp 67) = .pointer (some ⟨Gr, 0, none⟩) := holds_valF (hx (.tmp 67)) (by kernel_rfl)
                  have e69 : aw.eval (.tmp 69) = .int .i64 nn := holds_valF (hx (.tmp 69)) (by kernel_rfl)
                  simp only [List.map_toArray, List.map_cons, List.map_nil, e67, e69]
                  refine (pl_tick2 hp1 HX.out.n).mono ?_
                  rintro e W' ⟨rfl, u1', u2', hp'⟩
                  refine ⟨_, rfl, ⟨hp'.lms.below.size, hp'.blk⟩, ?_, ?_, ⟨rfl, S1, u1', u2', hp'⟩⟩
                  · intro j uu hj hd hdep hh
                    by_cases hj9 : j < 8
                    · have : j = 0 ∨ j = 1 ∨ j = 2 ∨ j = 3 ∨ j = 4 ∨ j = 5 ∨ j = 6 ∨ j = 7 := by omega
                      rcases this with rfl | rfl | rfl | rfl | rfl | rfl | rfl | rfl
                      · exact hh
                      · exact hh
                      · exact hh
                      · first | exact absurd hd (by decide) | exact absurd hj (by decide) | simp at hj
                      · exact hh
                      · exact hh
                      · exact hh
                      · first | exact absurd hd (by decide) | exact absurd hj (by decide) | simp at hj
                    · rw [tbl_outF (n := 8) rfl (by omega)]
                      trivial
                  · intro j hj hsj hdn hpj
                    have hj2 : j = 3 := by
                      have : j = 3 ∨ j = 7 := by simpa using hsj
                      omega
                    subst hj2
                    exact absurd ((hdn.symm).trans (by kernel_rfl : _ = true)) (by decide)
              intro aa W3 hI hsz hdf hold hv hpv
              have w1 : aa.tmps.getD 66 undef = .int .i64 ((E.length - (tickE E nn).length : Nat) : Int) := (hpv 3 (by decide)).1 rfl
              have w2 : aa.tmps.getD 70 undef = .int .i64 ((E.length - (tickE E nn).length : Nat) : Int) := (hpv 7 (by decide)).2 rfl
              obtain ⟨_, S3, z1, z2, p3⟩ := plC_of (w0 := w) (G := G) (rb := rb) (E := tickE E nn) (Gr := Gr) (rb2 := rb) (E2 := tickE E nn) (c := c0) (ga := ga) (x := ⟨4, ⟨xo, xr, xv⟩, nn⟩) (u := .int .i64 ((E.length - (tickE E nn).length : Nat) : Int)) (hv 7 (by decide) (by intro k; simp)) (by kernel_rfl)
              have ha := act_puts [63, 64, 65, 66, 67, 68, 69, 70, 71] (by kernel_rfl) hsz hdf hold
              simp only [putAll, w1, w2] at ha
              generalize aa.tmps.getD 63 undef = x63 at ha
              generalize aa.tmps.getD 64 undef = x64 at ha
              generalize aa.tmps.getD 65 undef = x65 at ha
              generalize aa.tmps.getD 67 undef = x67 at ha
              generalize aa.tmps.getD 68 undef = x68 at ha
              generalize aa.tmps.getD 69 undef = x69 at ha
              generalize aa.tmps.getD 71 undef = x71 at ha
              clear w1 w2 hv hpv hold hsz hdf hI
              subst ha
              simp only [List.toList_toArray, List.drop_succ_cons, List.drop_zero, Act.put, List.setIfInBounds_toArray, List.set_cons_succ, List.set_cons_zero]
              have H3 : Hid (Mid14 w G Gr c0 ga ⟨4, ⟨xo, xr, xv⟩, nn⟩ W3) := Lib.hid ⟨rb, tickE E nn, S3, z1, z2, p3⟩
              clear p3
              go_wp2_with fail
              go_meet
              exact H3
            · have d4 : ((5 : Int) == 4) = false := by simp
              clear d3
              go_upto_region 16 with (fail)
              clear e0 d4
              refine wp_region_d (F := plF w ga ⟨5, ⟨xo, xr, xv⟩, nn⟩) (fun j v => (j = 3 → v = .int .i64 ((E.length - (tickE E nn).length : Nat) : Int)) ∧ (j = 7 → v = .int .i64 ((E.length - (tickE E nn).length : Nat) : Int))) (fun k j => k == 7 && j == 3) (fun i => i == 3 || i == 7) (fun i W => if i = 3 then PlS w G rb E S0 Gr rb E v1 v2 c0 ga ⟨5, ⟨xo, xr, xv⟩, nn⟩ W else True) 8
                [.val (.pointer (some ⟨G, 0, none⟩)), .val (.pointer (some ⟨ga, 4, none⟩)), .val (.int .i64 nn), plC w G rb (tickE E nn) Gr rb E c0 ga ⟨5, ⟨xo, xr, xv⟩, nn⟩ (.int .i64 ((E.length - (tickE E nn).length : Nat) : Int)), .val (.pointer (some ⟨Gr, 0, none⟩)), .val (.pointer (some ⟨ga, 4, none⟩)), .val (.int .i64 nn), plC w G rb (tickE E nn) Gr rb (tickE E nn) c0 ga ⟨5, ⟨xo, xr, xv⟩, nn⟩ (.int .i64 ((E.length - (tickE E nn).length : Nat) : Int))]
                (fun j v W h => ⟨fun e => by subst e; exact h.1, fun e => by subst e; exact h.1⟩) (by kernel_rfl) (by kernel_rfl) (by kernel_rfl) (by decide) (by kernel_rfl) ⟨H0.out.lms.below.size, H0.out.blk⟩ (fun i hi => ?_) (fun i a b _ _ hf _ hp' => ?_) (AllOblD.upto ⟨?_, ?_, ?_, ?_, ?_, ?_, ?_, ?_, trivial⟩) ?_ ?_
              · by_cases h2 : i = 3
                · simp only [h2, if_true]
                  exact H0.out.on (belowDrewN W 1)
                · simp only [h2, if_false]
              · by_cases h2 : i = 3
                · simp only [h2, if_true] at hp' ⊢
                  exact hp'.on hf
                · simp only [h2, if_false]
              · intro _
                exact OblD.move rfl _ (Or.inl rfl) (by kernel_rfl) rfl
              · intro _
                refine OblD.pure rfl (.pointer (some ⟨ga, 4, none⟩)) (by kernel_rfl) rfl fun ev W hI hx => ?_
                have e8 : ev (.tmp 8) = .pointer (some ⟨ga, 0, none⟩) := holds_valF (hx (.tmp 8)) (by kernel_rfl)
                simp [execOp, e8, go_sem]
              · intro _
                refine OblD.pure rfl (.int .i64 nn) (by kernel_rfl) rfl fun ev W hI hx => ?_
                have e8 : ev (.tmp 64) = .pointer (some ⟨ga, 4, none⟩) := holds_valF (hx (.tmp 64)) (by kernel_rfl)
                have d4 : W.cell? ⟨ga, 4, none⟩ = some (.int .i64 nn) := hI.2.cell 4
                simp [execOp, e8, go_sem, d4]
              · exact fun hh => absurd hh (by decide)
              · intro _
                exact OblD.move rfl _ (Or.inl rfl) (by kernel_rfl) rfl
              · intro _
                refine OblD.pure rfl (.pointer (some ⟨ga, 4, none⟩)) (by kernel_rfl) rfl fun ev W hI hx => ?_
                have e8 : ev (.tmp 8) = .pointer (some ⟨ga, 0, none⟩) := holds_valF (hx (.tmp 8)) (by kernel_rfl)
                simp [execOp, e8, go_sem]
              · intro _
                refine OblD.pure rfl (.int .i64 nn) (by kernel_rfl) rfl fun ev W hI hx => ?_
                have e8 : ev (.tmp 68) = .pointer (some ⟨ga, 4, none⟩) := holds_valF (hx (.tmp 68)) (by kernel_rfl)
                have d4 : W.cell? ⟨ga, 4, none⟩ = some (.int .i64 nn) := hI.2.cell 4
                simp [execOp, e8, go_sem, d4]
              · exact fun hh => absurd hh (by decide)
              · intro i oo him hsp hoo
                have hi2 : i = 3 ∨ i = 7 := by simpa using hsp
                rcases hi2 with hi2 | hi2
                · subst hi2
                  obtain rfl := (Option.some.inj hoo).symm
                  refine OblDX.call rfl 17 #[.tmp 63, .tmp 65] _ rfl Try.f17 Try.func17 (by kernel_rfl) (by kernel_rfl) rfl fun ev W hI hpre hx => ?_
                  have hpre : PlS w G rb E S0 Gr rb E v1 v2 c0 ga ⟨5, ⟨xo, xr, xv⟩, nn⟩ W := hpre
                  have e63 : ev (.tmp 63) = .pointer (some ⟨G, 0, none⟩) := holds_valF (hx (.tmp 63)) (by kernel_rfl)
                  have e65 : ev (.tmp 65) = .int .i64 nn := holds_valF (hx (.tmp 65)) (by kernel_rfl)
                  simp only [List.map_toArray, List.map_cons, List.map_nil, e63, e65]
                  refine (pl_tick hpre HX.out.n).mono ?_
                  rintro e W' ⟨rfl, S', hp'⟩
                  refine ⟨_, rfl, ⟨hp'.lms.below.size, hp'.blk⟩, ?_, ?_, ⟨rfl, S', v1, v2, hp'⟩⟩
                  · intro j uu hj hd hdep hh
                    by_cases hj9 : j < 8
                    · have : j = 0 ∨ j = 1 ∨ j = 2 ∨ j = 3 ∨ j = 4 ∨ j = 5 ∨ j = 6 ∨ j = 7 := by omega
                      rcases this with rfl | rfl | rfl | rfl | rfl | rfl | rfl | rfl
                      · exact hh
                      · exact hh
                      · exact hh
                      · first | exact absurd hj (by decide) | exact absurd hd (by decide) | exact absurd ((hdep.symm).trans (by kernel_rfl : _ = true)) (by decide) | simp at hj
                      · exact hh
                      · exact hh
                      · exact hh
                      · exact absurd ((hdep.symm).trans (by kernel_rfl : _ = true)) (by decide)
                    · rw [tbl_outF (n := 8) rfl (by omega)]
                      trivial
                  · intro j hj hsj hdn hpj
                    simp only [hj, if_false]
                · subst hi2
                  obtain rfl := (Option.some.inj hoo).symm
                  refine OblDX.callD rfl 23 #[.tmp 67, .tmp 69] _ rfl Try.f23 Try.func23 (by kernel_rfl) (by kernel_rfl) rfl fun aw W hI hpre hx hdp => ?_
                  obtain ⟨_, S1, u1, u2, hp1⟩ := (hdp 3 (by decide) (by kernel_rfl) (by kernel_rfl) : _ = _ ∧ ∃ S v1 v2, PlS w G rb (tickE E nn) S Gr rb E v1 v2 c0 ga ⟨5, ⟨xo, xr, xv⟩, nn⟩ W)
                  have e67 : aw.eval (.tmp 67) = .pointer (some ⟨Gr, 0, none⟩) := holds_valF (hx (.tmp 67)) (by kernel_rfl)
                  have e69 : aw.eval (.tmp 69) = .int .i64 nn := holds_valF (hx (.tmp 69)) (by kernel_rfl)
                  simp only [List.map_toArray, List.map_cons, List.map_nil, e67, e69]
                  refine (pl_tick2 hp1 HX.out.n).mono ?_
                  rintro e W' ⟨rfl, u1', u2', hp'⟩
                  refine ⟨_, rfl, ⟨hp'.lms.below.size, hp'.blk⟩, ?_, ?_, ⟨rfl, S1, u1', u2', hp'⟩⟩
                  · intro j uu hj hd hdep hh
                    by_cases hj9 : j < 8
                    · have : j = 0 ∨ j = 1 ∨ j = 2 ∨ j = 3 ∨ j = 4 ∨ j = 5 ∨ j = 6 ∨ j = 7 := by omega
                      rcases this with rfl | rfl | rfl | rfl | rfl | rfl | rfl | rfl
                      · exact hh
                      · exact hh
                      · exact hh
                      · first | exact absurd hd (by decide) | exact absurd hj (by decide) | simp at hj
                      · exact hh
                      · exact hh
                      · exact hh
                      · first | exact absurd hd (by decide) | exact absurd hj (by decide) | simp at hj
                    · rw [tbl_outF (n := 8) rfl (by omega)]
                      trivial
                  · intro j hj hsj hdn hpj
                    have hj2 : j = 3 := by
                      have : j = 3 ∨ j = 7 := by simpa using hsj
                      omega
                    subst hj2
                    exact absurd ((hdn.symm).trans (by kernel_rfl : _ = true)) (by decide)
              intro aa W3 hI hsz hdf hold hv hpv
              have w1 : aa.tmps.getD 66 undef = .int .i64 ((E.length - (tickE E nn).length : Nat) : Int) := (hpv 3 (by decide)).1 rfl
              have w2 : aa.tmps.getD 70 undef = .int .i64 ((E.length - (tickE E nn).length : Nat) : Int) := (hpv 7 (by decide)).2 rfl
              obtain ⟨_, S3, z1, z2, p3⟩ := plC_of (w0 := w) (G := G) (rb := rb) (E := tickE E nn) (Gr := Gr) (rb2 := rb) (E2 := tickE E nn) (c := c0) (ga := ga) (x := ⟨5, ⟨xo, xr, xv⟩, nn⟩) (u := .int .i64 ((E.length - (tickE E nn).length : Nat) : Int)) (hv 7 (by decide) (by intro k; simp)) (by kernel_rfl)
              have ha := act_puts [63, 64, 65, 66, 67, 68, 69, 70, 71] (by kernel_rfl) hsz hdf hold
              simp only [putAll, w1, w2] at ha
              generalize aa.tmps.getD 63 undef = x63 at ha
              generalize aa.tmps.getD 64 undef = x64 at ha
              generalize aa.tmps.getD 65 undef = x65 at ha
              generalize aa.tmps.getD 67 undef = x67 at ha
              generalize aa.tmps.getD 68 undef = x68 at ha
              generalize aa.tmps.getD 69 undef = x69 at ha
              generalize aa.tmps.getD 71 undef = x71 at ha
              clear w1 w2 hv hpv hold hsz hdf hI
              subst ha
              simp only [List.toList_toArray, List.drop_succ_cons, List.drop_zero, Act.put, List.setIfInBounds_toArray, List.set_cons_succ, List.set_cons_zero]
              have H3 : Hid (Mid14 w G Gr c0 ga ⟨5, ⟨xo, xr, xv⟩, nn⟩ W3) := Lib.hid ⟨rb, tickE E nn, S3, z1, z2, p3⟩
              clear p3
              go_wp2_with fail
              go_meet
              exact H3
          · have d4 : ((kd : Int) == 4) = false := by simp; omega
            have d5 : ((kd : Int) == 5) = false := by simp; omega
            clear e2
            go_upto_region 9 with (fail)
            clear e0 d3 d4 d5
            refine wp_region_d (F := plF w ga ⟨kd, ⟨xo, xr, xv⟩, nn⟩) (fun j v => (j = 5 → v = .bool (okE E xo)) ∧ (j = 11 → v = .bool (okE E xo))) (fun k j => k == 11 && j == 5) (fun i => i == 5 || i == 11) (fun i W => if i = 5 then PlS w G rb E S0 Gr rb E v1 v2 c0 ga ⟨kd, ⟨xo, xr, xv⟩, nn⟩ W else True) 12
              [.val (.pointer (some ⟨G, 0, none⟩)), .val (.pointer (some ⟨ga, 1, none⟩)), .val (.agg #[.int .u32 (xo : Int), .int .u64 (xr : Int), .int .i64 xv]), .val (.pointer (some ⟨ga, 4, none⟩)), .val (.int .i64 nn), plC w G rb (putE E ⟨⟨xo, xr, xv⟩, untilE nn⟩) Gr rb E c0 ga ⟨kd, ⟨xo, xr, xv⟩, nn⟩ (.bool (okE E xo)), .val (.pointer (some ⟨Gr, 0, none⟩)), .val (.pointer (some ⟨ga, 1, none⟩)), .val (.agg #[.int .u32 (xo : Int), .int .u64 (xr : Int), .int .i64 xv]), .val (.pointer (some ⟨ga, 4, none⟩)), .val (.int .i64 nn), plC w G rb (putE E ⟨⟨xo, xr, xv⟩, untilE nn⟩) Gr rb (putE E ⟨⟨xo, xr, xv⟩, untilE nn⟩) c0 ga ⟨kd, ⟨xo, xr, xv⟩, nn⟩ (.bool (okE E xo))]
              (fun j v W h => ⟨fun e => by subst e; exact h.1, fun e => by subst e; exact h.1⟩) (by kernel_rfl) (by kernel_rfl) (by kernel_rfl) (by decide) (by kernel_rfl) ⟨H0.out.lms.below.size, H0.out.blk⟩ (fun i hi => ?_) (fun i a b _ _ hf _ hp' => ?_) (AllOblD.upto ⟨?_, ?_, ?_, ?_, ?_, ?_, ?_, ?_, ?_, ?_, ?_, ?_, trivial⟩) ?_ ?_
            · by_cases h2 : i = 5
              · simp only [h2, if_true]
                exact H0.out.on (belowDrewN W 1)
              · simp only [h2, if_false]
            · by_cases h2 : i = 5
              · simp only [h2, if_true] at hp' ⊢
                exact hp'.on hf
              · simp only [h2, if_false]
            · intro _
              exact OblD.move rfl _ (Or.inl rfl) (by kernel_rfl) rfl
            · intro _
              refine OblD.pure rfl (.pointer (some ⟨ga, 1, none⟩)) (by kernel_rfl) rfl fun ev W hI hx => ?_
              have e8 : ev (.tmp 8) = .pointer (some ⟨ga, 0, none⟩) := holds_valF (hx (.tmp 8)) (by kernel_rfl)
              simp [execOp, e8, go_sem]
            · intro _
              refine OblD.pure rfl (.agg #[.int .u32 (xo : Int), .int .u64 (xr : Int), .int .i64 xv]) (by kernel_rfl) rfl fun ev W hI hx => ?_
              have e8 : ev (.tmp 32) = .pointer (some ⟨ga, 1, none⟩) := holds_valF (hx (.tmp 32)) (by kernel_rfl)
              have d1 : W.cell? ⟨ga, 1, none⟩ = some (.int .u32 (xo : Int)) := hI.2.cell 1
              have d2 : W.cell? ⟨ga, 2, none⟩ = some (.int .u64 (xr : Int)) := hI.2.cell 2
              have d3 : W.cell? ⟨ga, 3, none⟩ = some (.int .i64 xv) := hI.2.cell 3
              simp [execOp, e8, go_sem, d1, d2, d3]
            · intro _
              refine OblD.pure rfl (.pointer (some ⟨ga, 4, none⟩)) (by kernel_rfl) rfl fun ev W hI hx => ?_
              have e8 : ev (.tmp 8) = .pointer (some ⟨ga, 0, none⟩) := holds_valF (hx (.tmp 8)) (by kernel_rfl)
              simp [execOp, e8, go_sem]
            · intro _
              refine OblD.pure rfl (.int .i64 nn) (by kernel_rfl) rfl fun ev W hI hx => ?_
              have e8 : ev (.tmp 34) = .pointer (some ⟨ga, 4, none⟩) := holds_valF (hx (.tmp 34)) (by kernel_rfl)
              have d4 : W.cell? ⟨ga, 4, none⟩ = some (.int .i64 nn) := hI.2.cell 4
              simp [execOp, e8, go_sem, d4]
            · exact fun hh => absurd hh (by decide)
            · intro _
              exact OblD.move rfl _ (Or.inl rfl) (by kernel_rfl) rfl
            · intro _
              refine OblD.pure rfl (.pointer (some ⟨ga, 1, none⟩)) (by kernel_rfl) rfl fun ev W hI hx => ?_
              have e8 : ev (.tmp 8) = .pointer (some ⟨ga, 0, none⟩) := holds_valF (hx (.tmp 8)) (by kernel_rfl)
              simp [execOp, e8, go_sem]
            · intro _
              refine OblD.pure rfl (.agg #[.int .u32 (xo : Int), .int .u64 (xr : Int), .int .i64 xv]) (by kernel_rfl) rfl fun ev W hI hx => ?_
              have e8 : ev (.tmp 38) = .pointer (some ⟨ga, 1, none⟩) := holds_valF (hx (.tmp 38)) (by kernel_rfl)
              have d1 : W.cell? ⟨ga, 1, none⟩ = some (.int .u32 (xo : Int)) := hI.2.cell 1
              have d2 : W.cell? ⟨ga, 2, none⟩ = some (.int .u64 (xr : Int)) := hI.2.cell 2
              have d3 : W.cell? ⟨ga, 3, none⟩ = some (.int .i64 xv) := hI.2.cell 3
              simp [execOp, e8, go_sem, d1, d2, d3]
            · intro _
              refine OblD.pure rfl (.pointer (some ⟨ga, 4, none⟩)) (by kernel_rfl) rfl fun ev W hI hx => ?_
              have e8 : ev (.tmp 8) = .pointer (some ⟨ga, 0, none⟩) := holds_valF (hx (.tmp 8)) (by kernel_rfl)
              simp [execOp, e8, go_sem]
            · intro _
              refine OblD.pure rfl (.int .i64 nn) (by kernel_rfl) rfl fun ev W hI hx => ?_
              have e8 : ev (.tmp 40) = .pointer (some ⟨ga, 4, none⟩) := holds_valF (hx (.tmp 40)) (by kernel_rfl)
              have d4 : W.cell? ⟨ga, 4, none⟩ = some (.int .i64 nn) := hI.2.cell 4
              simp [execOp, e8, go_sem, d4]
            · exact fun hh => absurd hh (by decide)
            · intro i oo him hsp hoo
              have hi2 : i = 5 ∨ i = 11 := by simpa using hsp
              rcases hi2 with hi2 | hi2
              · subst hi2
                obtain rfl := (Option.some.inj hoo).symm
                refine OblDX.call rfl 14 #[.tmp 31, .tmp 33, .tmp 35] _ rfl Try.f14 Try.func14 (by kernel_rfl) (by kernel_rfl) rfl fun ev W hI hpre hx => ?_
                have hpre : PlS w G rb E S0 Gr rb E v1 v2 c0 ga ⟨kd, ⟨xo, xr, xv⟩, nn⟩ W := hpre
                have e31 : ev (.tmp 31) = .pointer (some ⟨G, 0, none⟩) := holds_valF (hx (.tmp 31)) (by kernel_rfl)
                have e33 : ev (.tmp 33) = .agg #[.int .u32 (xo : Int), .int .u64 (xr : Int), .int .i64 xv] := holds_valF (hx (.tmp 33)) (by kernel_rfl)
                have e35 : ev (.tmp 35) = .int .i64 nn := holds_valF (hx (.tmp 35)) (by kernel_rfl)
                simp only [List.map_toArray, List.map_cons, List.map_nil, e31, e33, e35]
                refine (pl_tmmbr hpre HX.out.t HX.out.n).mono ?_
                rintro e W' ⟨rfl, S', hp'⟩
                refine ⟨_, rfl, ⟨hp'.lms.below.size, hp'.blk⟩, ?_, ?_, ⟨rfl, S', v1, v2, hp'⟩⟩
                · intro j uu hj hd hdep hh
                  by_cases hj9 : j < 12
                  · have : j = 0 ∨ j = 1 ∨ j = 2 ∨ j = 3 ∨ j = 4 ∨ j = 5 ∨ j = 6 ∨ j = 7 ∨ j = 8 ∨ j = 9 ∨ j = 10 ∨ j = 11 := by omega
                    rcases this with rfl | rfl | rfl | rfl | rfl | rfl | rfl | rfl | rfl | rfl | rfl | rfl
                    · exact hh
                    · exact hh
                    · exact hh
                    · exact hh
                    · exact hh
                    · first | exact absurd hj (by decide) | exact absurd hd (by decide) | exact absurd ((hdep.symm).trans (by kernel_rfl : _ = true)) (by decide) | simp at hj
                    · exact hh
                    · exact hh
                    · exact hh
                    · exact hh
                    · exact hh
                    · exact absurd ((hdep.symm).trans (by kernel_rfl : _ = true)) (by decide)
                  · rw [tbl_outF (n := 12) rfl (by omega)]
                    trivial
                · intro j hj hsj hdn hpj
                  simp only [hj, if_false]
              · subst hi2
                obtain rfl := (Option.some.inj hoo).symm
                refine OblDX.callD rfl 24 #[.tmp 37, .tmp 39, .tmp 41] _ rfl Try.f24 Try.func24 (by kernel_rfl) (by kernel_rfl) rfl fun aw W hI hpre hx hdp => ?_
                obtain ⟨_, S1, u1, u2, hp1⟩ := (hdp 5 (by decide) (by kernel_rfl) (by kernel_rfl) : _ = _ ∧ ∃ S v1 v2, PlS w G rb (putE E ⟨⟨xo, xr, xv⟩, untilE nn⟩) S Gr rb E v1 v2 c0 ga ⟨kd, ⟨xo, xr, xv⟩, nn⟩ W)
                have e37 : aw.eval (.tmp 37) = .pointer (some ⟨Gr, 0, none⟩) := holds_valF (hx (.tmp 37)) (by kernel_rfl)
                have e39 : aw.eval (.tmp 39) = .agg #[.int .u32 (xo : Int), .int .u64 (xr : Int), .int .i64 xv] := holds_valF (hx (.tmp 39)) (by kernel_rfl)
                have e41 : aw.eval (.tmp 41) = .int .i64 nn := holds_valF (hx (.tmp 41)) (by kernel_rfl)
                simp only [List.map_toArray, List.map_cons, List.map_nil, e37, e39, e41]
                refine (pl_tmmbr2 hp1 HX.out.t HX.out.n).mono ?_
                rintro e W' ⟨rfl, u1', u2', hp'⟩
                refine ⟨_, rfl, ⟨hp'.lms.below.size, hp'.blk⟩, ?_, ?_, ⟨rfl, S1, u1', u2', hp'⟩⟩
                · intro j uu hj hd hdep hh
                  by_cases hj9 : j < 12
                  · have : j = 0 ∨ j = 1 ∨ j = 2 ∨ j = 3 ∨ j = 4 ∨ j = 5 ∨ j = 6 ∨ j = 7 ∨ j = 8 ∨ j = 9 ∨ j = 10 ∨ j = 11 := by omega
                    rcases this with rfl | rfl | rfl | rfl | rfl | rfl | rfl | rfl | rfl | rfl | rfl | rfl
                    · exact hh
                    · exact hh
                    · exact hh
                    · exact hh
                    · exact hh
                    · first | exact absurd hd (by decide) | exact absurd hj (by decide) | simp at hj
                    · exact hh
                    · exact hh
                    · exact hh
                    · exact hh
                    · exact hh
                    · first | exact absurd hd (by decide) | exact absurd hj (by decide) | simp at hj
                  · rw [tbl_outF (n := 12) rfl (by omega)]
                    trivial
                · intro j hj hsj hdn hpj
                  have hj2 : j = 5 := by
                    have : j = 5 ∨ j = 11 := by simpa using hsj
                    omega
                  subst hj2
                  exact absurd ((hdn.symm).trans (by kernel_rfl : _ = true)) (by decide)
            intro aa W3 hI hsz hdf hold hv hpv
            have w1 : aa.tmps.getD 36 undef = .bool (okE E xo) := (hpv 5 (by decide)).1 rfl
            have w2 : aa.tmps.getD 42 undef = .bool (okE E xo) := (hpv 11 (by decide)).2 rfl
            obtain ⟨_, S3, z1, z2, p3⟩ := plC_of (w0 := w) (G := G) (rb := rb) (E := putE E ⟨⟨xo, xr, xv⟩, untilE nn⟩) (Gr := Gr) (rb2 := rb) (E2 := putE E ⟨⟨xo, xr, xv⟩, untilE nn⟩) (c := c0) (ga := ga) (x := ⟨kd, ⟨xo, xr, xv⟩, nn⟩) (u := .bool (okE E xo)) (hv 11 (by decide) (by intro k; simp)) (by kernel_rfl)
            have ha := act_puts [31, 32, 33, 34, 35, 36, 37, 38, 39, 40, 41, 42, 43] (by kernel_rfl) hsz hdf hold
            simp only [putAll, w1, w2] at ha
            generalize aa.tmps.getD 31 undef = x31 at ha
            generalize aa.tmps.getD 32 undef = x32 at ha
            generalize aa.tmps.getD 33 undef = x33 at ha
            generalize aa.tmps.getD 34 undef = x34 at ha
            generalize aa.tmps.getD 35 undef = x35 at ha
            generalize aa.tmps.getD 37 undef = x37 at ha
            generalize aa.tmps.getD 38 undef = x38 at ha
            generalize aa.tmps.getD 39 undef = x39 at ha
            generalize aa.tmps.getD 40 undef = x40 at ha
            generalize aa.tmps.getD 41 undef = x41 at ha
            generalize aa.tmps.getD 43 undef = x43 at ha
            clear w1 w2 hv hpv hold hsz hdf hI
            subst ha
            simp only [List.toList_toArray, List.drop_succ_cons, List.drop_zero, Act.put, List.setIfInBounds_toArray, List.set_cons_succ, List.set_cons_zero]
            have H3 : Hid (Mid14 w G Gr c0 ga ⟨kd, ⟨xo, xr, xv⟩, nn⟩ W3) := Lib.hid ⟨rb, putE E ⟨⟨xo, xr, xv⟩, untilE nn⟩, S3, z1, z2, p3⟩
            clear p3
            go_wp2_with fail
            go_meet
            exact H3
      case rest =>
        clear e0 e2 H0
        obtain ⟨rb, E, S1, v1, v2, hp⟩ := hcut.out
        obtain ⟨A2, c2, rfl, r2⟩ := hp.lms.rl.val1 hp.lms.ok2
        have HP := Lib.hid hp
        have HV := Lib.hid (fun W (hb : Below wc.heap.size wc W) => r2.on hb)
        have HT := Lib.hid (Ents.T_in hp.lms.ok)
        have HL := Lib.hid (⟨by have := E.T_len; have := hp.lms.ok.len; omega, by have := hp.lms.ok.len; omega⟩ : E.T.length ≤ 1000000 ∧ E.length ≤ 1000000)
        clear hp hcut r2
        go_upto_region 18 with (fail)
        refine wp_region_tbl [.val (.pointer (some ⟨G, 0, none⟩)), .val (.int .i64 ((limV c0 rb E : Nat) : Int)), .val (.pointer (some ⟨Gr, 0, none⟩)), .val (.int .i64 ((limV c0 rb E : Nat) : Int)), .val (.bool false), .val (.bool false), .val (.pointer (some ⟨G, 0, none⟩)), rowC E.T, .val (.pointer (some ⟨Gr, 0, none⟩)), .val (.pointer (some ⟨Gr, 0, none⟩)), .val (.pointer (some ⟨Gr, 2, none⟩)), .val (.slice A2 E.length c2), .val (.bool true), .val (.bool false), .val (.bool false), .val (.bool false), .val (.pointer (some ⟨G, 0, none⟩)), setC E.T, .val (.pointer (some ⟨Gr, 0, none⟩)), .val (.pointer (some ⟨Gr, 0, none⟩)), .val (.pointer (some ⟨Gr, 2, none⟩)), .val (.slice A2 E.length c2), setC E.T, .val (.bool true), .val (.bool false), .val (.bool false)] (by kernel_rfl) (by kernel_rfl) (by kernel_rfl) (AllObl.all ⟨?_, ?_, ?_, ?_, ?_, ?_, ?_, ?_, ?_, ?_, ?_, ?_, ?_, ?_, ?_, ?_, ?_, ?_, ?_, ?_, ?_, ?_, ?_, ?_, ?_, ?_, trivial⟩) ?_
        · exact Obl.move trivial _ (Or.inl rfl) (by kernel_rfl)
        · exact Obl.call trivial 15 #[.tmp 72] _ rfl Try.f15 Try.func15 (by kernel_rfl) (by kernel_rfl) (fun ev w hb hx => by
            have e72 : ev (.tmp 72) = .pointer (some ⟨G, 0, none⟩) := holds_val (hx (.tmp 72)) (by kernel_rfl)
            simp only [List.map_toArray, List.map_cons, List.map_nil, e72]
            exact ((lm_rate (HP.out.on ((drew_below _).trans hb)).lms.lm HP.out.lms.ok HP.out.lms.so HP.out.lms.cap HP.out.lms.rbl)).mono fun _ _ hh => Val.holds (by kernel_rfl) hh)
        · exact Obl.move trivial _ (Or.inl rfl) (by kernel_rfl)
        · exact Obl.call trivial 25 #[.tmp 74] _ rfl Try.f25 Try.func25 (by kernel_rfl) (by kernel_rfl) (fun ev w hb hx => by
            have e74 : ev (.tmp 74) = .pointer (some ⟨Gr, 0, none⟩) := holds_val (hx (.tmp 74)) (by kernel_rfl)
            simp only [List.map_toArray, List.map_cons, List.map_nil, e74]
            exact ((ref_rateL (HP.out.on ((drew_below _).trans hb)).lms.rl HP.out.lms.ok2 HP.out.lms.cap HP.out.lms.rbl2)).mono fun _ _ hh => Val.holds (by kernel_rfl) hh)
        · exact Obl.bin trivial .neq _ (.tmp 73) (.tmp 75) _ rfl (.int .i64 ((limV c0 rb E : Nat) : Int)) (.int .i64 ((limV c0 rb E : Nat) : Int)) (.bool false) (by kernel_rfl) (by kernel_rfl) (fun w => by simp [eqGuard, go_sem]) (by kernel_rfl)
        · exact Obl.move trivial _ (Or.inl rfl) (by kernel_rfl)
        · exact Obl.move ⟨by kernel_rfl, by kernel_rfl, by kernel_rfl⟩ _ (Or.inl rfl) (by kernel_rfl)
        · exact Obl.call ⟨by kernel_rfl, by kernel_rfl, by kernel_rfl⟩ 18 #[.tmp 78] _ rfl Try.f18 Try.func18 (by kernel_rfl) (by kernel_rfl) (fun ev w hb hx => by
            have e78 : ev (.tmp 78) = .pointer (some ⟨G, 0, none⟩) := holds_val (hx (.tmp 78)) (by kernel_rfl)
            simp only [List.map_toArray, List.map_cons, List.map_nil, e78]
            exact (((lm_tuples (HP.out.on ((drew_below _).trans hb)).lms.lm HP.out.lms.ok HP.out.lms.so).mono (fun e w' h => RowIs.of HT.out h))).mono fun _ _ hh => rowC_ret (by kernel_rfl) hh)
        · exact Obl.move ⟨by kernel_rfl, by kernel_rfl, by kernel_rfl⟩ _ (Or.inl rfl) (by kernel_rfl)
        · exact Obl.pure ⟨by kernel_rfl, by kernel_rfl, by kernel_rfl⟩ (.pointer (some ⟨Gr, 0, none⟩)) (by kernel_rfl) (fun ev w hb hx => by
            have e80 : ev (.tmp 80) = .pointer (some ⟨Gr, 0, none⟩) := holds_val (hx (.tmp 80)) (by kernel_rfl)
            simp [execOp, e80, go_sem])
        · exact Obl.pure ⟨by kernel_rfl, by kernel_rfl, by kernel_rfl⟩ (.pointer (some ⟨Gr, 2, none⟩)) (by kernel_rfl) (fun ev w hb hx => by
            have e81 : ev (.tmp 81) = .pointer (some ⟨Gr, 0, none⟩) := holds_val (hx (.tmp 81)) (by kernel_rfl)
            simp [execOp, e81, go_sem])
        · exact Obl.pure ⟨by kernel_rfl, by kernel_rfl, by kernel_rfl⟩ (.slice A2 E.length c2) (by kernel_rfl) (fun ev w hb hx => by
            have e82 : ev (.tmp 82) = .pointer (some ⟨Gr, 2, none⟩) := holds_val (hx (.tmp 82)) (by kernel_rfl)
            have hw := (HP.out.on ((drew_below _).trans hb)).lms.rl.cells.1.2.2.1; simp [execOp, e82, go_sem, hw])
        · exact Obl.call ⟨by kernel_rfl, by kernel_rfl, by kernel_rfl⟩ 26 #[.tmp 79, .tmp 83] _ rfl Try.f26 Try.func26 (by kernel_rfl) (by kernel_rfl) (fun ev w hb hx => by
            obtain ⟨A79, n79, e79, r79⟩ := rowC_of (hx (.tmp 79)) (by kernel_rfl)
            have e83 : ev (.tmp 83) = .slice A2 E.length c2 := holds_val (hx (.tmp 83)) (by kernel_rfl)
            simp only [List.map_toArray, List.map_cons, List.map_nil, e79, e83]
            exact ((tuples_yes r79 (HV.out _ ((drew_below _).trans hb)) HL.out.1)).mono fun _ _ hh => Val.holds (by kernel_rfl) hh)
        · exact Obl.un ⟨by kernel_rfl, by kernel_rfl, by kernel_rfl⟩ .not _ (.tmp 84) rfl (.bool true) (.bool false) (by kernel_rfl) (fun w => by simp [go_sem]) (by kernel_rfl)
        · exact Obl.pick trivial _ _ _ rfl false (by kernel_rfl) (by kernel_rfl)
        · exact Obl.move trivial _ (Or.inl rfl) (by kernel_rfl)
        · exact Obl.move ⟨by kernel_rfl, by kernel_rfl, by kernel_rfl⟩ _ (Or.inl rfl) (by kernel_rfl)
        · exact Obl.call ⟨by kernel_rfl, by kernel_rfl, by kernel_rfl⟩ 19 #[.tmp 88] _ rfl Try.f19 Try.func19 (by kernel_rfl) (by kernel_rfl) (fun ev w hb hx => by
            have e88 : ev (.tmp 88) = .pointer (some ⟨G, 0, none⟩) := holds_val (hx (.tmp 88)) (by kernel_rfl)
            simp only [List.map_toArray, List.map_cons, List.map_nil, e88]
            exact (((lm_set (HP.out.on ((drew_below _).trans hb)).lms.lm HP.out.lms.ok HP.out.lms.so).mono (fun e w' h => SetIs.of HT.out h))).mono fun _ _ hh => setC_ret (by kernel_rfl) hh)
        · exact Obl.move ⟨by kernel_rfl, by kernel_rfl, by kernel_rfl⟩ _ (Or.inl rfl) (by kernel_rfl)
        · exact Obl.pure ⟨by kernel_rfl, by kernel_rfl, by kernel_rfl⟩ (.pointer (some ⟨Gr, 0, none⟩)) (by kernel_rfl) (fun ev w hb hx => by
            have e90 : ev (.tmp 90) = .pointer (some ⟨Gr, 0, none⟩) := holds_val (hx (.tmp 90)) (by kernel_rfl)
            simp [execOp, e90, go_sem])
        · exact Obl.pure ⟨by kernel_rfl, by kernel_rfl, by kernel_rfl⟩ (.pointer (some ⟨Gr, 2, none⟩)) (by kernel_rfl) (fun ev w hb hx => by
            have e91 : ev (.tmp 91) = .pointer (some ⟨Gr, 0, none⟩) := holds_val (hx (.tmp 91)) (by kernel_rfl)
            simp [execOp, e91, go_sem])
        · exact Obl.pure ⟨by kernel_rfl, by kernel_rfl, by kernel_rfl⟩ (.slice A2 E.length c2) (by kernel_rfl) (fun ev w hb hx => by
            have e92 : ev (.tmp 92) = .pointer (some ⟨Gr, 2, none⟩) := holds_val (hx (.tmp 92)) (by kernel_rfl)
            have hw := (HP.out.on ((drew_below _).trans hb)).lms.rl.cells.1.2.2.1; simp [execOp, e92, go_sem, hw])
        · exact Obl.call ⟨by kernel_rfl, by kernel_rfl, by kernel_rfl⟩ 27 #[.tmp 93] _ rfl Try.f27 Try.func27 (by kernel_rfl) (by kernel_rfl) (fun ev w hb hx => by
            have e93 : ev (.tmp 93) = .slice A2 E.length c2 := holds_val (hx (.tmp 93)) (by kernel_rfl)
            simp only [List.map_toArray, List.map_cons, List.map_nil, e93]
            exact (((ref_set13 A2 E.length c2 E.T _ (HV.out _ ((drew_below _).trans hb)) HL.out.2).mono (fun e w' h => SetIs.of HT.out h))).mono fun _ _ hh => setC_ret (by kernel_rfl) hh)
        · exact Obl.call ⟨by kernel_rfl, by kernel_rfl, by kernel_rfl⟩ 26 #[.tmp 89, .tmp 94] _ rfl Try.f26 Try.func26 (by kernel_rfl) (by kernel_rfl) (fun ev w hb hx => by
            obtain ⟨R89, A89, n89, h89, e89, r89⟩ := setC_of (hx (.tmp 89)) (by kernel_rfl)
            obtain ⟨R94, A94, n94, h94, e94, r94⟩ := setC_of (hx (.tmp 94)) (by kernel_rfl)
            simp only [List.map_toArray, List.map_cons, List.map_nil, e89, e94]
            exact ((sets_yes HP.out.lms.ok h89 h94 r89 r94)).mono fun _ _ hh => Val.holds (by kernel_rfl) hh)
        · exact Obl.un ⟨by kernel_rfl, by kernel_rfl, by kernel_rfl⟩ .not _ (.tmp 95) rfl (.bool true) (.bool false) (by kernel_rfl) (fun w => by simp [go_sem]) (by kernel_rfl)
        · exact Obl.pick trivial _ _ _ rfl false (by kernel_rfl) (by kernel_rfl)
        intro a WR hb hsz hdf hold hv
        have ha := act_puts [72, 73, 74, 75, 76, 77, 78, 79, 80, 81, 82, 83, 84, 85, 86, 87, 88, 89, 90, 91, 92, 93, 94, 95, 96, 97] (by kernel_rfl) hsz hdf hold
        simp only [putAll] at ha
        have z97 : a.tmps.getD 97 undef = .bool false := holds_val (hv 25 97 (by kernel_rfl)) (by kernel_rfl)
        rw [z97] at ha
        generalize a.tmps.getD 72 undef = x72 at ha
        generalize a.tmps.getD 73 undef = x73 at ha
        generalize a.tmps.getD 74 undef = x74 at ha
        generalize a.tmps.getD 75 undef = x75 at ha
        generalize a.tmps.getD 76 undef = x76 at ha
        generalize a.tmps.getD 77 undef = x77 at ha
        generalize a.tmps.getD 78 undef = x78 at ha
        generalize a.tmps.getD 79 undef = x79 at ha
        generalize a.tmps.getD 80 undef = x80 at ha
        generalize a.tmps.getD 81 undef = x81 at ha
        generalize a.tmps.getD 82 undef = x82 at ha
        generalize a.tmps.getD 83 undef = x83 at ha
        generalize a.tmps.getD 84 undef = x84 at ha
        generalize a.tmps.getD 85 undef = x85 at ha
        generalize a.tmps.getD 86 undef = x86 at ha
        generalize a.tmps.getD 87 undef = x87 at ha
        generalize a.tmps.getD 88 undef = x88 at ha
        generalize a.tmps.getD 89 undef = x89 at ha
        generalize a.tmps.getD 90 undef = x90 at ha
        generalize a.tmps.getD 91 undef = x91 at ha
        generalize a.tmps.getD 92 undef = x92 at ha
        generalize a.tmps.getD 93 undef = x93 at ha
        generalize a.tmps.getD 94 undef = x94 at ha
        generalize a.tmps.getD 95 undef = x95 at ha
        generalize a.tmps.getD 96 undef = x96 at ha
        clear hv hold hsz hdf z97
        subst ha
        simp only [Act.put, List.setIfInBounds_toArray, List.set_cons_succ, List.set_cons_zero]
        have H5 : Hid (Pl14 w G Gr c0 WR) := Lib.hid ⟨rb, E, S1, _, _, (HP.out.on ((drew_below _).trans hb)).lms⟩
        clear hb
        go_wp2_with fail
        go_roundw
        case rel => exact ⟨q + 1, by omega, by omega, by go_num, H5⟩
        case measure => simp [intOf]; omega
    · obtain ⟨rb, E, S0, v1, v2, hs⟩ := HQ.out
      have H1 := Lib.hid hs
      clear hs HQ
      by_cases hl1 : q < n
      · have g1 : decide ((q : Int) < (n : Int)) = true := by simp; omega
        have g2 : decide ((q : Int) < 100) = false := by simp; omega
        clear hlt
        go_wp2_with fail
        ((with_reducible refine (lm_rate H1.out.lm H1.out.ok H1.out.so H1.out.cap H1.out.rbl).mono ?_); rintro e w3 ⟨rfl, b3⟩)
        have H3 := Lib.hid (H1.out.on b3)
        clear b3
        go_wp2_with fail
        ((with_reducible refine (ref_rateL H3.out.rl H3.out.ok2 H3.out.cap H3.out.rbl2).mono ?_); rintro e w4 ⟨rfl, b4⟩)
        have H4 := Lib.hid (H3.out.on b4).below
        clear b4
        go_wp2_with fail
        go_ret
        exact ⟨rfl, H4.out⟩
      · have g1 : decide ((q : Int) < (n : Int)) = false := by simp; omega
        clear hlt
        go_wp2_with fail
        ((with_reducible refine (lm_rate H1.out.lm H1.out.ok H1.out.so H1.out.cap H1.out.rbl).mono ?_); rintro e w3 ⟨rfl, b3⟩)
        have H3 := Lib.hid (H1.out.on b3)
        clear b3
        go_wp2_with fail
        ((with_reducible refine (ref_rateL H3.out.rl H3.out.ok2 H3.out.cap H3.out.rbl2).mono ?_); rintro e w4 ⟨rfl, b4⟩)
        have H4 := Lib.hid (H3.out.on b4).below
        clear b4
        go_wp2_with fail
        go_ret
        exact ⟨rfl, H4.out⟩
end Go.Proofs.Ytfijlgkgbbemnaa.RP
