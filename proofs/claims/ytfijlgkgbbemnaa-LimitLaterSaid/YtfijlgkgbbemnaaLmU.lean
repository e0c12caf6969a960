/- Contract: limelightref13's limit: Tmmbr. -/
import Derived.Test.YtfijlgkgbbemnaaLmV
import Derived.Test.YtfijlgkgbbemnaaCkA
import Derived.Deep.Cut
import Derived.Deep.CutBlock
import Derived.BigQuiet
import Derived.Deep.QuietTactic
namespace Go.Proofs.Ytfijlgkgbbemnaa
open Go.RowKit
set_option linter.unusedVariables false
set_option linter.unusedSimpArgs false
set_option maxRecDepth 20000

theorem own_not_empty {w : World} {base size n g : Nat} {e ty : TypeId} {v : Value} {xs : List Value} (h : w.ownsRow base e size v n xs) (hn : 0 < n) (hs : 0 < size) (hB : Blk w g ty #[]) : v.ownBlock ≠ some g := fun hk => by
  rcases h.2 with ⟨_, h0⟩ | ⟨g', cap, cur, rfl, _, hg, hnc, _, hcs, _⟩
  · omega
  · have e : g' = g := by simpa [Value.ownBlock] using hk
    subst e
    unfold Blk at hB
    rw [hg] at hB
    injection hB with hB
    injection hB with hB
    rw [hB] at hcs
    have : 0 < cap * size := Nat.mul_pos (by omega) hs
    simp at hcs
    omega
theorem fin_ins {w w0 W W' : World} {G c : Nat} {rb : Option Nat} {E E' : Ents} {v1 v2 a1 a2 : Value} {L1 : List Tup} {L2 : List Int} {base1 base2 : Nat} (h0 : RlAt w0 G c rb E v1 v2) (hA : Below w.heap.size w w0) (b1 : Below w0.heap.size w0 W) (o1 : OwnTp W base1 a1 L1) (hb1 : w0.heap.size ≤ base1)
    (b2 : Below (W.setCell ⟨G, 2, none⟩ a1).heap.size (W.setCell ⟨G, 2, none⟩ a1) W') (o2 : OwnV W' base2 a2 L2) (hb2 : w0.heap.size ≤ base2) (e1 : L1 = Ents.T E') (e2 : L2 = Ents.U E') :
    RlOut G c rb E' v1 v2 (.bool true) w (.returned (.bool true)) (W'.setCell ⟨G, 3, none⟩ a2) := by
  have hGl := h0.blk.lt
  have oG := OnlyS.one (S := fun k => k = G) (Only.set G 2 W a1) rfl
  have oH := OnlyS.one (S := fun k => k = G) (Only.set G 3 W' a2) rfl
  have n1 : ∀ k, a1.ownBlock = some k → w0.heap.size ≤ k := fun k hk => Nat.le_trans hb1 (World.ownsRow.lt o1 k hk).1
  have n2 : ∀ k, a2.ownBlock = some k → w0.heap.size ≤ k := fun k hk => Nat.le_trans hb2 (World.ownsRow.lt o2 k hk).1
  have B1 := (b1.block G hGl).trans h0.blk
  have B2 := (Blk.set_ B1 2 a1)
  have B3 := (b2.block G B2.lt).trans B2
  have q1 : OwnTp (W.setCell ⟨G, 2, none⟩ a1) base1 a1 L1 := own_onlyS o1 oG (fun k hk (e : k = G) => by have := n1 k hk; omega)
  have q2 : OwnTp W' base1 a1 L1 := own_onlyS q1 (OnlyS.of (S := fun _ => False) b2) (fun _ _ h => h)
  refine ⟨rfl, a1, a2, ⟨?_, ?_, ?_⟩, fun k hk => ?_, ?_⟩
  · have := (Blk.set_ B3 3 a2)
    simpa only [List.setIfInBounds_toArray, List.set_cons_succ, List.set_cons_zero] using this
  · rw [← e1]
    exact own_onlyS (own_less q2 (Nat.zero_le _)) oH (fun k hk (e : k = G) => by have := n1 k hk; omega)
  · rw [← e2]
    exact own_onlyS (own_less o2 (Nat.zero_le _)) oH (fun k hk (e : k = G) => by have := n2 k hk; omega)
  · rcases hk with hk | hk | hk
    · exact .inl (.inl hk)
    · exact .inr (Nat.le_trans hA.size (n1 k hk))
    · exact .inr (Nat.le_trans hA.size (n2 k hk))
  · exact (((((OnlyS.of (S := RlS G v1 v2) hA).trans (OnlyS.of (S := RlS G v1 v2) b1) (fun i hi _ => hi)).trans oG (fun i (hi : i = G) _ => .inl hi)).trans (OnlyS.of (S := RlS G v1 v2) b2) (fun i hi _ => hi)).trans oH (fun i (hi : i = G) _ => .inl hi))
set_option maxHeartbeats 8000000 in
theorem ref_tmmbr {w : World} {G c : Nat} {rb : Option Nat} {E : Ents} {v1 v2 : Value} (h : RlAt w G c rb E v1 v2) (hi : EntsOk E) {o r : Nat} {v : Int} (hin : (⟨o, r, v⟩ : Tup).In) {now : Int} (hnow : I64 now) :
    Calls Try.prog 24 #[.pointer (some ⟨G, 0, none⟩), .agg #[.int .u32 (o : Int), .int .u64 (r : Int), .int .i64 v], .int .i64 now] w (RlOut G c rb (putE E ⟨⟨o, r, v⟩, untilE now⟩) v1 v2 (.bool (okE E o)) w) := by
  have hok := hi
  obtain ⟨A1, c1, rfl, _⟩ := h.val1 hi
  obtain ⟨A2, c2, rfl, _⟩ := h.val2
  have bA := belowA w (.cells #[.int .u32 (o : Int), .int .u64 (r : Int), .int .i64 v] 31)
  have h0 := h.on bA
  have hbT : Blk (w.alloc (.cells #[.int .u32 (o : Int), .int .u64 (r : Int), .int .i64 v] 31)) w.heap.size 31 #[.int .u32 (o : Int), .int .u64 (r : Int), .int .i64 v] := Blk.new _ _ _
  have hS0 : ∀ k, RlS G (.slice A1 E.length c1) (.slice A2 E.length c2) k → k < w.heap.size := fun k hk => h.lt hk
  obtain ⟨n, hn⟩ : ∃ n, n = E.length := ⟨_, rfl⟩
  rw [← hn] at h h0 hS0 ⊢
  have hn6 : n ≤ 6 := by have := hi.len; omega
  have HA := Lib.hid (⟨bA, hS0, h.blk.lt⟩ : _ ∧ _ ∧ _)
  have HI := Lib.hid (⟨hok, hin, hnow, hn⟩ : _ ∧ _ ∧ _ ∧ _)
  go_enter Try.func24, Try.ntmps24
  go_upto_block 0 with (fail)
  obtain ⟨gT, hgT⟩ : ∃ g, g = w.heap.size := ⟨_, rfl⟩
  rw [← hgT] at hbT HA ⊢
  have HGT := Lib.hid hgT
  clear hgT
  generalize w.alloc (.cells #[.int .u32 (o : Int), .int .u64 (r : Int), .int .i64 v] 31) = w0 at h0 hbT HA ⊢
  have H0 := Lib.hid (⟨h0, hbT⟩ : _ ∧ _)
  have HC := Lib.hid (fun W (hb : Below w0.heap.size w0 W) => (⟨(h0.on hb).cells.1.2.2.1, (h0.on hb).cells.1.2.2.2, (hb.cell (p := ⟨gT, 0, none⟩) hbT.lt).trans (hbT.cell 0), (hb.cell (p := ⟨gT, 1, none⟩) hbT.lt).trans (hbT.cell 1), (hb.cell (p := ⟨gT, 2, none⟩) hbT.lt).trans (hbT.cell 2)⟩ : W.cell? ⟨G, 2, none⟩ = some (.slice A1 n c1) ∧ W.cell? ⟨G, 3, none⟩ = some (.slice A2 n c2) ∧ W.cell? ⟨gT, 0, none⟩ = some (.int .u32 (o : Int)) ∧ W.cell? ⟨gT, 1, none⟩ = some (.int .u64 (r : Int)) ∧ W.cell? ⟨gT, 2, none⟩ = some (.int .i64 v)))
  have HRT := Lib.hid (fun W (hb : Below w0.heap.size w0 W) => (by
    obtain ⟨A', c', e, r⟩ := (h0.on hb).val1 hi
    rw [← hn] at e r
    injection e with e1 _ e3
    subst e1 e3
    exact r : RT W W.heap.size A1 n c1 E.T))
  clear h h0 hbT bA hS0 hi hin hnow hn hok
  have hpl := posE_le E o
  go_cut [7] from 9 to 31 (fun i wx => i = .int .i64 ((posE E o : Nat) : Int) ∧ Below w0.heap.size w0 wx)
  case first =>
    go_wp2_with fail
    go_loopw [7] (fun i wr => ∃ q : Nat, q ≤ n ∧ i = .int .i64 (q : Int) ∧ Hid ((∀ k (h : k < E.length), k < q → E[k].t.owner < o) ∧ Below w0.heap.size w0 wr)) (fun i _ => n - (intOf i).toNat)
    case atStart => exact ⟨0, by omega, rfl, Lib.hid ⟨fun k _ h => absurd h (by omega), Below.refl _ _⟩⟩
    case round =>
      obtain ⟨q, hq, rfl, HQ⟩ := hrel
      obtain ⟨k2, _, t0, _, _⟩ := HC.out wr HQ.out.2
      by_cases hlt : q < n
      · have g1 : decide ((q : Int) < (n : Int)) = true := by simp; omega
        have g1n : decide (q < n) = true := by simp; omega
        have g3 : (q : Int) < (n : Int) := by omega
        have hqE : q < E.length := by rw [← HI.out.2.2.2]; exact hlt
        obtain ⟨b1, o1, rfl, hb1, u0, u1, u2⟩ := (HRT.out wr HQ.out.2).at (q := q) (by rw [E.T_len]; exact hqE)
        rw [show E.T[q]'(by rw [E.T_len]; exact hqE) = E[q].t by simp [Ents.T]] at u0 u1 u2
        have HST := Lib.hid (fun h : ¬ E[q].t.owner < o => posE_stop E o q (Nat.le_of_lt hqE) HQ.out.1 (fun _ => h))
        have HGO := Lib.hid (fun (hh : E[q].t.owner < o) k (h : k < E.length) (hk : k < q + 1) => (by
          rcases Nat.lt_or_ge k q with h1 | h1
          · exact HQ.out.1 k h h1
          · have : k = q := by omega
            subst this
            exact hh : E[k].t.owner < o))
        generalize E[q].t.owner = oq at u0 HST HGO
        clear u1 u2 hqE hb1
        by_cases hoq : oq < o
        · have s1 : decide ((oq : Int) < (o : Int)) = true := by simp; omega
          have s1n : decide (oq < o) = true := by simp; omega
          have HG2 := Lib.hid (HGO.out hoq)
          have hbW := HQ.out.2
          clear HST HGO hoq
          go_upto_region 2 with (fail)
          go_quiet (fail)
          go_wp2_with fail
          go_roundw
          case rel => exact ⟨q + 1, by omega, by go_num, Lib.hid ⟨HG2.out, hbW.trans ((belowDrewN wr _).mono hbW.size)⟩⟩
          case measure => simp [intOf]; omega
        · have s1 : decide ((oq : Int) < (o : Int)) = false := by simp; omega
          have s1n : decide (oq < o) = false := by simp; omega
          have HG2 := Lib.hid (HST.out hoq)
          have hbW := HQ.out.2
          clear HST HGO hoq
          go_upto_region 2 with (fail)
          go_quiet (fail)
          go_wp2_with fail
          go_meet
          exact ⟨by rw [HG2.out], hbW.trans ((belowDrewN wr _).mono hbW.size)⟩
      · have g1 : decide ((q : Int) < (n : Int)) = false := by simp; omega
        have g1n : decide (q < n) = false := by simp; omega
        have HG2 := Lib.hid (posE_stop E o q (by rw [← HI.out.2.2.2]; exact hq) HQ.out.1 (fun h => absurd h (by rw [← HI.out.2.2.2]; exact hlt)))
        have hbW := HQ.out.2
        clear hlt
        go_upto_region 2 with (fail)
        go_quiet (fail)
        go_wp2_with fail
        go_meet
        exact ⟨by rw [HG2.out], hbW.trans ((belowDrewN wr _).mono hbW.size)⟩
  case rest =>
  obtain ⟨rfl, hbc⟩ := hcut
  obtain ⟨wz, rfl⟩ : ∃ wz, wz = wc := ⟨_, rfl⟩
  obtain ⟨p, hp⟩ : ∃ p, p = posE E o := ⟨_, rfl⟩
  rw [← hp] at hpl ⊢
  have HPO := Lib.hid hp
  have hpn : p ≤ n := by rw [HI.out.2.2.2]; exact hpl
  clear hp hpl
  have ha := ref_add now 1000000 HI.out.2.2.1 (by unfold I64; omega)
  have HB := Lib.hid hbc
  clear hbc
  go_wp2_with fail
  ((with_reducible refine (ha _).mono ?_); rintro e w1 ⟨rfl, hw1⟩)
  subst hw1
  clear ha
  obtain ⟨un, hun⟩ : ∃ u, u = untilE now := ⟨_, rfl⟩
  have HUN := Lib.hid hun
  go_upto_if 34 with (fail)
  go_cut [8] from 33 to 37 (fun x wx => x = .int .i64 un ∧ wz = wx)
  case first =>
    by_cases hn0 : now < 0
    · have s1 : decide (now < 0) = true := decide_eq_true hn0
      have y1 : IntKind.i64.wrap (now + 1000000) = un := by rw [hun, IntKind.wrap_i64]; have := HI.out.2.2.1; unfold I64 at this; unfold untilE; rw [if_pos hn0]; omega
      clear hun
      go_wp2_with fail
      go_meet
      exact ⟨rfl, rfl⟩
    · have s1 : decide (now < 0) = false := decide_eq_false hn0
      have HY1 := Lib.hid (show ((addC now 1000000 : Nat) : Int) = un by rw [hun]; unfold untilE; rw [if_neg hn0])
      clear hun
      go_wp2_with fail
      go_meet
      exact ⟨by rw [HY1.out], rfl⟩
  case rest =>
  clear hun
  obtain ⟨rfl, hwc2⟩ := hcut
  subst hwc2
  obtain ⟨k2, k3, t0, t1, t2⟩ := HC.out _ HB.out
  have HIU := Lib.hid (show I64 un by rw [HUN.out]; exact untilE_i64 HI.out.2.2.1)
  by_cases hh : hereE E o = true
  · obtain ⟨hlE, heo⟩ := hereE_get hh
    have hpE : p < E.length := by rw [HPO.out]; exact hlE
    have hpn2 : p < n := by rw [HI.out.2.2.2]; exact hpE
    have heo2 : ∀ h : p < E.length, E[p].t.owner = o := by rw [HPO.out]; exact fun h => heo
    have HPUT := Lib.hid (⟨by rw [putE_here hh, HPO.out], by unfold okE; rw [hh]; rfl⟩ : putE E ⟨⟨o, r, v⟩, untilE now⟩ = E.set p ⟨⟨o, r, v⟩, untilE now⟩ ∧ okE E o = true)
    obtain ⟨b1, o1, hA1, hb1, u0, u1, u2⟩ := (HRT.out wz HB.out).at (q := p) (by rw [E.T_len]; exact hpE)
    subst hA1
    rw [show E.T[p]'(by rw [E.T_len]; exact hpE) = E[p].t by simp [Ents.T]] at u0 u1 u2
    rw [heo2 hpE] at u0
    have HPE := Lib.hid hpE
    have g1 : decide ((p : Int) < (n : Int)) = true := by simp; omega
    have g1n : decide (p < n) = true := by simp; omega
    have g3 : (p : Int) < (n : Int) := by omega
    clear u1 u2 hb1 hlE heo heo2 hpE hh k3 t1 t2
    go_upto_region 7 with (fail)
    go_quiet (fail)
    have bq : Below w0.heap.size w0 (wz.drewN nq) := HB.out.trans ((belowDrewN wz nq).mono HB.out.size)
    clear k2 t0 u0
    generalize wz.drewN nq = wq at bq ⊢
    obtain ⟨k2, k3, t0, t1, t2⟩ := HC.out wq bq
    have bqa := belowA wq (.cells #[] 31)
    have oE : OwnTp (wq.alloc (.cells #[] 31)) w0.heap.size (.slice (some ⟨wq.heap.size, 0, none⟩) 0 0) [] := ownE 3 bq.size (Blk.new _ _ _)
    have rE := HRT.out _ (bq.trans (bqa.mono bq.size))
    have sA := Nat.le_trans bq.size bqa.size
    have HLn := Lib.hid (show ([] : List Tup).length + n ≤ 4398046511104 by simp; omega)
    have HBQ := Lib.hid (bq.trans (bqa.mono bq.size))
    have HIT : Hid (∀ x ∈ E.T, x.In) := Lib.hid (fun x hx => by
      obtain ⟨y, hy, rfl⟩ := List.mem_map.1 hx
      exact (HI.out.1.ins y hy).t)
    have hGq : G < wq.heap.size := Nat.lt_of_lt_of_le H0.out.1.blk.lt bq.size
    clear bq bqa k3 t0 t1 t2
    go_upto_region 9 with (at_builtin; go_loud ((with_reducible refine wpList_appendTp rfl (.tmp 58) (.tmp 62) rfl rfl w0.heap.size (.slice (some ⟨wq.heap.size, 0, none⟩) 0 0) [] (by with_unfolding_all rfl) oE _ (some ⟨b1, o1, none⟩) n c1 E.T (by with_unfolding_all rfl) rE HLn.out sA ?_); intro v9 w9 ha9; rw [List.nil_append] at ha9; obtain ⟨A9, c9, e9, _, _⟩ := ha9.1.rt HIT.out; rw [E.T_len, ← HI.out.2.2.2] at e9; subst e9; have H9 := Lib.hid (⟨ha9.1, below_grown HBQ.out sA ha9.2 (fun kk hkk => (World.ownsRow.lt oE kk hkk).1)⟩ : _ ∧ Below w0.heap.size w0 w9); have hB9 := (H9.out.2.block G H0.out.1.blk.lt).trans H0.out.1.blk; have s2 := Blk.cell hB9 2; have f2 := Blk.frozen hB9 2; replace s2 : w9.cell? ⟨G, 2, none⟩ = some (.slice (some ⟨b1, o1, none⟩) n c1) := s2; have HB9 := Lib.hid hB9; clear ha9 hB9))
    have hGw : G < w0.heap.size := H0.out.1.blk.lt
    have oG := OnlyS.one (S := fun k => k = G) (Only.set G 2 w9 (.slice A9 n c9)) rfl
    have o8 : OwnTp (w9.setCell ⟨G, 2, none⟩ (.slice A9 n c9)) w0.heap.size (.slice A9 n c9) E.T := own_onlyS H9.out.1 oG (fun k hk (e : k = G) => by have := (World.ownsRow.lt H9.out.1 k hk).1; omega)
    have h8 : OwnV (w9.setCell ⟨G, 2, none⟩ (.slice A9 n c9)) 0 (.slice A2 n c2) E.U := own_onlyS (H0.out.1.on H9.out.2).r2 oG (fun k hk (e : k = G) => H0.out.1.n2 (e ▸ hk))
    have hB8 : Blk (w9.setCell ⟨G, 2, none⟩ (.slice A9 n c9)) G 56 #[.int .i64 (c : Int), .int .i64 (rbI rb), .slice A9 n c9, .slice A2 n c2] := by
      have := Blk.set_ HB9.out 2 (.slice A9 n c9)
      simpa only [List.setIfInBounds_toArray, List.set_cons_succ, List.set_cons_zero] using this
    have hgG : gT ≠ G := by have := HA.out.2.2; omega
    have hT8 : Blk (w9.setCell ⟨G, 2, none⟩ (.slice A9 n c9)) gT 31 #[.int .u32 (o : Int), .int .u64 (r : Int), .int .i64 v] := (oG.block gT (Nat.lt_of_lt_of_le H0.out.2.lt H9.out.2.size) (fun e => hgG e)).trans ((H9.out.2.block gT H0.out.2.lt).trans H0.out.2)
    have hO8 : OnlyS (fun k => k = G) w (w9.setCell ⟨G, 2, none⟩ (.slice A9 n c9)) := ((OnlyS.of (S := fun k => k = G) (by have := HA.out.1; rw [HGT.out] at this; exact this)).trans (OnlyS.of (S := fun k => k = G) H9.out.2) (fun i hi _ => hi)).trans oG (fun i hi _ => hi)
    obtain ⟨b9, o9, hA9, hb9, z0, z1, z2⟩ := (show RT _ _ A9 n c9 E.T by
      obtain ⟨A', c', e, r', _⟩ := o8.rt HIT.out
      rw [E.T_len, ← HI.out.2.2.2] at e r'
      injection e with e1 _ e3
      subst e1 e3
      exact r').at (q := p) (by rw [E.T_len]; exact HPE.out)
    subst hA9
    obtain ⟨b2, o2, hA2, hb2, y0⟩ := rx_at (show RX _ _ A2 n c2 1 (E.U.map lv) by
      obtain ⟨A', c', e, r', _⟩ := h8.rx
      rw [E.U_len, ← HI.out.2.2.2] at e r'
      injection e with e1 _ e3
      subst e1 e3
      exact r') (q := p) (by rw [E.U_len]; exact HPE.out)
    subst hA2
    have H8 := Lib.hid (⟨o8, h8, hB8, hT8, hO8⟩ : _ ∧ _ ∧ _ ∧ _ ∧ _)
    clear z0 z1 z2 y0 hb9 hb2 oG o8 h8 hB8 hT8 hO8 s2 f2 k2
    generalize w9.setCell ⟨G, 2, none⟩ (.slice (some ⟨b9, o9, none⟩) n c9) = w8 at H8 ⊢
    have hb9 := H8.out.1.froz.1
    have hgTw := H0.out.2.lt
    have HNE := Lib.hid (⟨by omega, by omega⟩ : G ≠ b9 ∧ gT ≠ b9)
    have hq3 := g3
    have hq4 := hpn2
    clear hgTw hGw hb9 hgG
    refine wp_region_d (F := ovF (fun k => k = b9) w8) (fun _ _ => True) (fun _ _ => false) (fun i => i == 13) (fun _ W => OwnTp W w0.heap.size (.slice (some ⟨b9, o9, none⟩) n c9) E.T) 14
      [.val (.pointer (some ⟨G, 0, none⟩)), .val (.pointer (some ⟨G, 0, none⟩)), .val (.pointer (some ⟨G, 2, none⟩)), .val (.slice (some ⟨b9, o9, none⟩) n c9), .val (.int .i64 (p : Int)), .val (.pointer (some ⟨G, 0, none⟩)), .val (.pointer (some ⟨G, 0, none⟩)), .val (.pointer (some ⟨G, 3, none⟩)), .val (.slice (some ⟨b2, o2, none⟩) n c2), .val (.int .i64 (p : Int)), .val (.agg #[.int .u32 (o : Int), .int .u64 (r : Int), .int .i64 v]), .val (.int .i64 un), .val (.pointer (some ⟨b9, o9 + p * 3, none⟩)), ovR _ w8 w0.heap.size (.slice (some ⟨b9, o9, none⟩) n c9) (E.T.set p ⟨o, r, v⟩)]
      (fun _ _ _ _ => trivial) (by kernel_rfl) (by kernel_rfl) (by kernel_rfl) (by decide) (by kernel_rfl) (OnlyS.of (belowDrewN w8 1)) (fun i hi => H8.out.1.on (belowDrewN w8 1)) (fun i a b _ _ hF _ hp => hp.on hF) (AllOblD.upto ⟨?_, ?_, ?_, ?_, ?_, ?_, ?_, ?_, ?_, ?_, ?_, ?_, ?_, ?_, trivial⟩) ?_ ?_
    · intro _
      exact OblD.move rfl _ (Or.inl rfl) (by kernel_rfl) rfl
    · intro _
      refine OblD.pure rfl (.pointer (some ⟨G, 0, none⟩)) (by kernel_rfl) rfl fun ev W hI hx => ?_
      have e66 : ev (.tmp 66) = .pointer (some ⟨G, 0, none⟩) := holds_valF (hx (.tmp 66)) (by kernel_rfl)
      simp [execOp, e66, go_sem]
    · intro _
      refine OblD.pure rfl (.pointer (some ⟨G, 2, none⟩)) (by kernel_rfl) rfl fun ev W hI hx => ?_
      have e67 : ev (.tmp 67) = .pointer (some ⟨G, 0, none⟩) := holds_valF (hx (.tmp 67)) (by kernel_rfl)
      simp [execOp, e67, go_sem]
    · intro _
      refine OblD.pure rfl (.slice (some ⟨b9, o9, none⟩) n c9) (by kernel_rfl) rfl fun ev W hI hx => ?_
      have e68 : ev (.tmp 68) = .pointer (some ⟨G, 2, none⟩) := holds_valF (hx (.tmp 68)) (by kernel_rfl)
      have hI : OnlyS (fun k => k = b9) w8 W := hI
      have d0 : W.cell? ⟨G, 2, none⟩ = _ := ((H8.out.2.2.1.onlyS hI (fun e => HNE.out.1 e)).cell 2)
      replace d0 : W.cell? ⟨G, 2, none⟩ = some (.slice (some ⟨b9, o9, none⟩) n c9) := d0
      simp [execOp, e68, go_sem, d0]
    · intro _
      exact OblD.move rfl _ (Or.inl rfl) (by kernel_rfl) rfl
    · intro _
      exact OblD.move rfl _ (Or.inl rfl) (by kernel_rfl) rfl
    · intro _
      refine OblD.pure rfl (.pointer (some ⟨G, 0, none⟩)) (by kernel_rfl) rfl fun ev W hI hx => ?_
      have e71 : ev (.tmp 71) = .pointer (some ⟨G, 0, none⟩) := holds_valF (hx (.tmp 71)) (by kernel_rfl)
      simp [execOp, e71, go_sem]
    · intro _
      refine OblD.pure rfl (.pointer (some ⟨G, 3, none⟩)) (by kernel_rfl) rfl fun ev W hI hx => ?_
      have e72 : ev (.tmp 72) = .pointer (some ⟨G, 0, none⟩) := holds_valF (hx (.tmp 72)) (by kernel_rfl)
      simp [execOp, e72, go_sem]
    · intro _
      refine OblD.pure rfl (.slice (some ⟨b2, o2, none⟩) n c2) (by kernel_rfl) rfl fun ev W hI hx => ?_
      have e73 : ev (.tmp 73) = .pointer (some ⟨G, 3, none⟩) := holds_valF (hx (.tmp 73)) (by kernel_rfl)
      have hI : OnlyS (fun k => k = b9) w8 W := hI
      have d0 : W.cell? ⟨G, 3, none⟩ = _ := ((H8.out.2.2.1.onlyS hI (fun e => HNE.out.1 e)).cell 3)
      replace d0 : W.cell? ⟨G, 3, none⟩ = some (.slice (some ⟨b2, o2, none⟩) n c2) := d0
      simp [execOp, e73, go_sem, d0]
    · intro _
      exact OblD.move rfl _ (Or.inl rfl) (by kernel_rfl) rfl
    · intro _
      refine OblD.pure rfl (.agg #[.int .u32 (o : Int), .int .u64 (r : Int), .int .i64 v]) (by kernel_rfl) rfl fun ev W hI hx => ?_
      have e4 : ev (.tmp 4) = .pointer (some ⟨gT, 0, none⟩) := holds_valF (hx (.tmp 4)) (by kernel_rfl)
      have hI : OnlyS (fun k => k = b9) w8 W := hI
      have hTW := H8.out.2.2.2.1.onlyS hI (fun e => HNE.out.2 e)
      have d0 : W.cell? ⟨gT, 0, none⟩ = some (.int .u32 (o : Int)) := hTW.cell 0
      have d1 : W.cell? ⟨gT, 1, none⟩ = some (.int .u64 (r : Int)) := hTW.cell 1
      have d2 : W.cell? ⟨gT, 2, none⟩ = some (.int .i64 v) := hTW.cell 2
      simp [execOp, e4, go_sem, d0, d1, d2]
    · intro _
      exact OblD.move rfl _ (Or.inl rfl) (by kernel_rfl) rfl
    · intro _
      refine OblD.pure rfl (.pointer (some ⟨b9, o9 + p * 3, none⟩)) (by kernel_rfl) rfl fun ev W hI hx => ?_
      have e69 : ev (.tmp 69) = .slice (some ⟨b9, o9, none⟩) n c9 := holds_valF (hx (.tmp 69)) (by kernel_rfl)
      have e70 : ev (.tmp 70) = .int .i64 (p : Int) := holds_valF (hx (.tmp 70)) (by kernel_rfl)
      simp [execOp, e69, e70, go_sem, hq3, hq4]
    · exact fun hh => absurd hh (by decide)
    · intro i oo him hsp hoo
      have hi2 : i = 13 := by simpa using hsp
      subst hi2
      obtain rfl := (Option.some.inj hoo).symm
      refine OblDX.store rfl rfl fun ev W hI hpre hx => ?_
      have hI : OnlyS (fun k => k = b9) w8 W := hI
      have hpre : OwnTp W w0.heap.size (.slice (some ⟨b9, o9, none⟩) n c9) E.T := hpre
      have e78 : ev (.tmp 78) = .pointer (some ⟨b9, o9 + p * 3, none⟩) := holds_valF (hx (.tmp 78)) (by kernel_rfl)
      have e76 : ev (.tmp 76) = .agg #[.int .u32 (o : Int), .int .u64 (r : Int), .int .i64 v] := holds_valF (hx (.tmp 76)) (by kernel_rfl)
      obtain ⟨b', o', ea, _, z0, z1, z2⟩ := (show RT _ _ (some ⟨b9, o9, none⟩) n c9 E.T by
        obtain ⟨A', c', e, r', _⟩ := hpre.rt HIT.out
        rw [E.T_len, ← HI.out.2.2.2] at e r'
        injection e with e1 _ e3
        subst e1 e3
        exact r').at (q := p) (by rw [E.T_len]; exact HPE.out)
      injection ea with ea
      injection ea with ea1 ea2
      subst ea1 ea2
      have hfz := hpre.froz.2.2
      refine ⟨((W.setCell ⟨b9, o9 + p * 3, none⟩ (.int .u32 (o : Int))).setCell ⟨b9, o9 + p * 3 + 1, none⟩ (.int .u64 (r : Int))).setCell ⟨b9, o9 + p * 3 + 2, none⟩ (.int .i64 v), ?_, ?_, ?_, ?_, ?_⟩
      · simp [execOp, e78, e76, go_sem, z0, z1, z2, hfz]
      · exact ((hI.trans (OnlyS.one (S := fun k => k = b9) (Only.set b9 (o9 + p * 3) W _) rfl) (fun i hi _ => hi)).trans (OnlyS.one (S := fun k => k = b9) (Only.set b9 (o9 + p * 3 + 1) _ _) rfl) (fun i hi _ => hi)).trans (OnlyS.one (S := fun k => k = b9) (Only.set b9 (o9 + p * 3 + 2) _ _) rfl) (fun i hi _ => hi)
      · intro j uu hj hd hdep hh
        by_cases hj9 : j < 14
        · have : j = 0 ∨ j = 1 ∨ j = 2 ∨ j = 3 ∨ j = 4 ∨ j = 5 ∨ j = 6 ∨ j = 7 ∨ j = 8 ∨ j = 9 ∨ j = 10 ∨ j = 11 ∨ j = 12 := by omega
          rcases this with rfl | rfl | rfl | rfl | rfl | rfl | rfl | rfl | rfl | rfl | rfl | rfl | rfl
          all_goals exact hh
        · rw [tbl_outF (n := 14) rfl (by omega)]
          trivial
      · intro j hj hsj
        exact absurd (by simpa using hsj) hj
      · have hz := hpre.setAll (o := o) (r := r) (v := v) (q := p) (by rw [E.T_len]; exact HPE.out)
        exact hz
    intro aa W hI hsz hdf hold hv _
    have hI : OnlyS (fun k => k = b9) w8 W := hI
    have o13 : OwnTp W w0.heap.size (.slice (some ⟨b9, o9, none⟩) n c9) (E.T.set p ⟨o, r, v⟩) := ovR_of (hv 13 (by decide) (by intro k; rfl)) (by kernel_rfl)
    have v74 : aa.tmps.getD 74 undef = .slice (some ⟨b2, o2, none⟩) n c2 := holds_valF (hv 8 (by decide) (by intro k; rfl)) (by kernel_rfl)
    have v75 : aa.tmps.getD 75 undef = .int .i64 (p : Int) := holds_valF (hv 9 (by decide) (by intro k; rfl)) (by kernel_rfl)
    have v77 : aa.tmps.getD 77 undef = .int .i64 un := holds_valF (hv 11 (by decide) (by intro k; rfl)) (by kernel_rfl)
    have ha := act_puts [66, 67, 68, 69, 70, 71, 72, 73, 74, 75, 76, 77, 78, 79] (by kernel_rfl) hsz hdf hold
    simp only [putAll, v74, v75, v77] at ha
    generalize aa.tmps.getD 66 undef = x66 at ha
    generalize aa.tmps.getD 67 undef = x67 at ha
    generalize aa.tmps.getD 68 undef = x68 at ha
    generalize aa.tmps.getD 69 undef = x69 at ha
    generalize aa.tmps.getD 70 undef = x70 at ha
    generalize aa.tmps.getD 71 undef = x71 at ha
    generalize aa.tmps.getD 72 undef = x72 at ha
    generalize aa.tmps.getD 73 undef = x73 at ha
    generalize aa.tmps.getD 76 undef = x76 at ha
    generalize aa.tmps.getD 78 undef = x78 at ha
    generalize aa.tmps.getD 79 undef = x79 at ha
    clear v74 v75 v77 hv hold hsz hdf
    subst ha
    simp only [List.toList_toArray, List.drop_succ_cons, List.drop_zero, Act.put, List.setIfInBounds_toArray, List.set_cons_succ, List.set_cons_zero]
    have hb2 : b2 < w0.heap.size := by
      have := (World.ownsRow.lt H0.out.1.r2 b2 rfl).2
      exact this
    have hb29 : b2 ≠ b9 := by have := o13.froz.1; omega
    have hW2 : OwnV W 0 (.slice (some ⟨b2, o2, none⟩) n c2) E.U := own_onlyS H8.out.2.1 hI (fun k hk (e : k = b9) => hb29 (by
      have : b2 = k := Option.some.inj hk
      omega))
    obtain ⟨hset, hfz⟩ := hW2.setAt (q := p) (u := un)
    have f4 := hfz (o2 + p)
    obtain ⟨b', o', ea, _, y0⟩ := rx_at (show RX _ _ (some ⟨b2, o2, none⟩) n c2 1 (E.U.map lv) by
      obtain ⟨A', c', e, r', _⟩ := hW2.rx
      rw [E.U_len, ← HI.out.2.2.2] at e r'
      injection e with e1 _ e3
      subst e1 e3
      exact r') (q := p) (by rw [E.U_len]; exact HPE.out)
    injection ea with ea
    injection ea with ea1 ea2
    subst ea1 ea2
    generalize E.U[p]'(by rw [E.U_len]; exact HPE.out) = uo at y0
    have HFIN : Hid (RlOut G c rb (putE E ⟨⟨o, r, v⟩, untilE now⟩) (.slice (some ⟨b1, o1, none⟩) n c1) (.slice (some ⟨b2, o2, none⟩) n c2) (.bool (okE E o)) w (.returned (.bool true)) (W.setCell ⟨b2, o2 + p, none⟩ (.int .i64 un))) := Lib.hid (by
      rw [HPUT.out.1, HPUT.out.2]
      have oB := OnlyS.one (S := fun k => k = b2) (Only.set b2 (o2 + p) W (.int .i64 un)) rfl
      have hGb : G ≠ b2 := fun e => H0.out.1.n2 (by rw [e]; rfl)
      refine ⟨rfl, .slice (some ⟨b9, o9, none⟩) n c9, .slice (some ⟨b2, o2, none⟩) n c2, ⟨((H8.out.2.2.1.onlyS hI (fun e => HNE.out.1 e)).onlyS oB (fun e => hGb e)), ?_, ?_⟩, fun k hk => ?_, ?_⟩
      · rw [T_set]
        exact own_onlyS (ownTp_less o13 (Nat.zero_le _)) oB (fun k hk (e : k = b2) => hb29 (by
          have : b9 = k := Option.some.inj hk
          omega))
      · rw [U_set]
        rw [← HUN.out]
        exact hset
      · rcases hk with hk | hk | hk
        · exact .inl (.inl hk)
        · right
          have e : b9 = k := Option.some.inj hk
          have h1 := o13.froz.1
          have h2 := HA.out.1.size
          have h3 := HGT.out
          omega
        · exact .inl (.inr (.inr hk))
      · refine ((H8.out.2.2.2.2.more (T := RlS G (.slice (some ⟨b1, o1, none⟩) n c1) (.slice (some ⟨b2, o2, none⟩) n c2)) fun k hk => .inl hk).trans hI (fun i (hi : i = b9) hlt => by
          exfalso
          have h1 := o13.froz.1
          have h2 := HA.out.1.size
          have h3 := HGT.out
          omega)).trans oB (fun i (hi : i = b2) _ => .inr (.inr (by rw [hi]; rfl))))
    clear hset hfz hW2 o13 hI
    go_wp2_with fail
    go_ret
    exact HFIN.out
  · have hno : hereE E o = false := by simpa using hh
    by_cases hpn2 : p < n
    · have hpE : p < E.length := by rw [← HI.out.2.2.2]; exact hpn2
      have heo2 : ∀ h : p < E.length, E[p].t.owner ≠ o := by
        rw [HPO.out]
        intro h e
        rw [hereE_yes h e] at hno
        cases hno
      obtain ⟨b1, o1, hA1, hb1, u0, u1, u2⟩ := (HRT.out wz HB.out).at (q := p) (by rw [E.T_len]; exact hpE)
      subst hA1
      rw [show E.T[p]'(by rw [E.T_len]; exact hpE) = E[p].t by simp [Ents.T]] at u0 u1 u2
      have hoq := heo2 hpE
      generalize E[p].t.owner = oq at u0 hoq
      have HNO := Lib.hid hno
      have g1 : decide ((p : Int) < (n : Int)) = true := by simp; omega
      have g1n : decide (p < n) = true := by simp; omega
      have g3 : (p : Int) < (n : Int) := by omega
      have s1 : ¬ (oq : Int) = (o : Int) := by omega
      have s1b : ((oq : Int) == (o : Int)) = false := by rw [beq_eq_false_iff_ne]; exact s1
      have s1d : decide ((oq : Int) = (o : Int)) = false := by simp; omega
      have s1n : decide (oq = o) = false := by simp; exact hoq
      clear u1 u2 hb1 heo2 hpE hh hno hoq k3 t1 t2
      go_upto_region 7 with (fail)
      go_quiet (fail)
      have bq : Below w0.heap.size w0 (wz.drewN nq) := HB.out.trans ((belowDrewN wz nq).mono HB.out.size)
      clear k2 t0 u0 g1 g1n g3 s1 s1b s1d s1n
      generalize wz.drewN nq = wq at bq ⊢
      obtain ⟨k2, k3, t0, t1, t2⟩ := HC.out wq bq
      have HBQ := Lib.hid bq
      by_cases h6 : n < 6
      · have s6 : decide ((6 : Int) ≤ (n : Int)) = false := by simp; omega
        have s6n : decide (6 ≤ n) = false := by simp; omega
        have HPUT := Lib.hid (⟨by rw [putE_room HNO.out (by rw [← HI.out.2.2.2]; exact h6), ← HPO.out], by unfold okE; rw [HNO.out, ← HI.out.2.2.2]; simp [h6]⟩ : putE E ⟨⟨o, r, v⟩, untilE now⟩ = E.take p ++ ⟨⟨o, r, v⟩, untilE now⟩ :: E.drop p ∧ okE E o = true)
        have HWT := Lib.hid (⟨Nat.lt_of_lt_of_le H0.out.1.blk.lt bq.size, k2, trivial⟩ : G < wq.heap.size ∧ wq.cell? ⟨G, 2, none⟩ = some (.slice (some ⟨b1, o1, none⟩) n c1) ∧ True)
        have hgq : gT < wq.heap.size := Nat.lt_of_lt_of_le H0.out.2.lt bq.size
        have HTT := Lib.hid (fun W (hI : Below wq.heap.size wq W) => (⟨(hI.cell (p := ⟨gT, 0, none⟩) hgq).trans t0, (hI.cell (p := ⟨gT, 1, none⟩) hgq).trans t1, (hI.cell (p := ⟨gT, 2, none⟩) hgq).trans t2⟩ : W.cell? ⟨gT, 0, none⟩ = some (.int .u32 (o : Int)) ∧ W.cell? ⟨gT, 1, none⟩ = some (.int .u64 (r : Int)) ∧ W.cell? ⟨gT, 2, none⟩ = some (.int .i64 v)))
        have rN := HRT.out wq bq
        have hnc := rN.2.2.2.1
        obtain ⟨Ar, cr, hcut, rR⟩ := rN.restN hpn
        have rT := rN.takeN hpn
        obtain ⟨mr, hmr⟩ : ∃ m, m = n - p := ⟨_, rfl⟩
        rw [← hmr] at hcut rR
        have HSRT := Lib.hid (⟨fun W (hI : Below wq.heap.size wq W) => rT.on hI, fun W (hI : Below wq.heap.size wq W) => rR.on hI⟩ : (∀ W, Below wq.heap.size wq W → RT W W.heap.size (some ⟨b1, o1, none⟩) p c1 (E.T.take p)) ∧ ∀ W, Below wq.heap.size wq W → RT W W.heap.size Ar mr cr (E.T.drop p))
        have HCUT := Lib.hid (⟨fun W => cut_toT (some ⟨b1, o1, none⟩) n c1 p (by omega) W, hcut⟩ : (∀ W, _) ∧ ∀ W, _)
        have HLNT := Lib.hid (⟨by rw [List.length_take, E.T_len]; omega, by rw [List.length_append, List.length_take, E.T_len]; simp; omega⟩ : (E.T.take p).length + 1 ≤ 4398046511104 ∧ (E.T.take p ++ [(⟨o, r, v⟩ : Tup)]).length + mr ≤ 4398046511104)
        clear k3 t0 t1 t2 hgq rN rT rR hcut hnc
        go_upto_region 13 with (fail)
        clear k2 s6 s6n
        refine wp_region_d (F := tkF wq) (fun _ _ => True) (fun k j => (k == 8 && j == 1) || (k == 11 && (j == 1 || j == 8 || j == 10)) || (k == 18 && (j == 8 || j == 10 || j == 11))) (fun i => i == 8 || i == 11 || i == 18) (fun _ _ => True) 19
          [.val (.pointer (some ⟨G, 0, none⟩)), emX wq 31, .val (.pointer (some ⟨G, 0, none⟩)), .val (.pointer (some ⟨G, 0, none⟩)), .val (.pointer (some ⟨G, 2, none⟩)), .val (.slice (some ⟨b1, o1, none⟩) n c1), .val (.int .i64 (p : Int)), .val (.slice (some ⟨b1, o1, none⟩) p c1), tkK wq (E.T.take p), .val (.agg #[.int .u32 (o : Int), .int .u64 (r : Int), .int .i64 v]), tkT wq o r v, tkK wq (E.T.take p ++ [(⟨o, r, v⟩ : Tup)]), .val (.pointer (some ⟨G, 0, none⟩)), .val (.pointer (some ⟨G, 0, none⟩)), .val (.pointer (some ⟨G, 2, none⟩)), .val (.slice (some ⟨b1, o1, none⟩) n c1), .val (.int .i64 (p : Int)), .val (.slice Ar mr cr), tkK wq ((E.T.take p ++ [(⟨o, r, v⟩ : Tup)]) ++ E.T.drop p)]
          (fun _ _ _ _ => trivial) (by kernel_rfl) (by kernel_rfl) (by kernel_rfl) (by decide) (by kernel_rfl) (belowDrewN wq 1) (fun i hi => trivial) (fun i a b _ _ _ _ _ => trivial) (AllOblD.upto ⟨?_, ?_, ?_, ?_, ?_, ?_, ?_, ?_, ?_, ?_, ?_, ?_, ?_, ?_, ?_, ?_, ?_, ?_, ?_, trivial⟩) ?_ ?_
        · intro _
          exact OblD.move rfl _ (Or.inl rfl) (by kernel_rfl) rfl
        · intro _
          refine OblD.step rfl fun ev W hI hx => ?_
          have hI : Below wq.heap.size wq W := hI
          refine ⟨.slice (some ⟨W.heap.size, 0, none⟩) 0 0, W.alloc (.cells #[] 31), ?_, hI.trans ((belowA W _).mono hI.size), belowA W _, ⟨W.heap.size, rfl, hI.size, Blk.new _ _ _⟩⟩
          simp [execOp, go_sem]
        · intro _
          exact OblD.move rfl _ (Or.inl rfl) (by kernel_rfl) rfl
        · intro _
          refine OblD.pure rfl (.pointer (some ⟨G, 0, none⟩)) (by kernel_rfl) rfl fun ev W hI hx => ?_
          have e88 : ev (.tmp 88) = .pointer (some ⟨G, 0, none⟩) := holds_valF (hx (.tmp 88)) (by kernel_rfl)
          simp [execOp, e88, go_sem]
        · intro _
          refine OblD.pure rfl (.pointer (some ⟨G, 2, none⟩)) (by kernel_rfl) rfl fun ev W hI hx => ?_
          have e89 : ev (.tmp 89) = .pointer (some ⟨G, 0, none⟩) := holds_valF (hx (.tmp 89)) (by kernel_rfl)
          simp [execOp, e89, go_sem]
        · intro _
          refine OblD.pure rfl (.slice (some ⟨b1, o1, none⟩) n c1) (by kernel_rfl) rfl fun ev W hI hx => ?_
          have e90 : ev (.tmp 90) = .pointer (some ⟨G, 2, none⟩) := holds_valF (hx (.tmp 90)) (by kernel_rfl)
          have hI : Below wq.heap.size wq W := hI
          have d0 : W.cell? ⟨G, 2, none⟩ = _ := (hI.cell (p := ⟨G, 2, none⟩) HWT.out.1).trans HWT.out.2.1
          simp [execOp, e90, go_sem, d0]
        · intro _
          exact OblD.move rfl _ (Or.inl rfl) (by kernel_rfl) rfl
        · intro _
          refine OblD.pure rfl (.slice (some ⟨b1, o1, none⟩) p c1) (by kernel_rfl) rfl fun ev W hI hx => ?_
          have e1 : ev (.tmp 91) = .slice (some ⟨b1, o1, none⟩) n c1 := holds_valF (hx (.tmp 91)) (by kernel_rfl)
          have e2 : ev (.tmp 92) = .int .i64 (p : Int) := holds_valF (hx (.tmp 92)) (by kernel_rfl)
          have h1 := HCUT.out.1 W
          have h2 : (Instr.sliceAt 46 (.slice (some ⟨b1, o1, none⟩) n c1) none (some (.int .i64 (p : Int))) none).run Try.prog W = .ok (.slice (some ⟨b1, o1, none⟩) p c1) W := (run_sliceAt_slice W 46 _ _ _ _ (by kernel_rfl)).trans h1
          simp [execOp, e1, e2, go_sem, h1, h2]
        · exact fun hh => absurd hh (by decide)
        · intro _
          refine OblD.pure rfl (.agg #[.int .u32 (o : Int), .int .u64 (r : Int), .int .i64 v]) (by kernel_rfl) rfl fun ev W hI hx => ?_
          have e4 : ev (.tmp 4) = .pointer (some ⟨gT, 0, none⟩) := holds_valF (hx (.tmp 4)) (by kernel_rfl)
          have hI : Below wq.heap.size wq W := hI
          obtain ⟨d0, d1, d2⟩ := HTT.out W hI
          simp [execOp, e4, go_sem, d0, d1, d2]
        · intro _
          refine OblD.step rfl fun ev W hI hx => ?_
          have e1 : ev (.tmp 95) = .agg #[.int .u32 (o : Int), .int .u64 (r : Int), .int .i64 v] := holds_valF (hx (.tmp 95)) (by kernel_rfl)
          have hI : Below wq.heap.size wq W := hI
          refine ⟨.slice (some ⟨W.heap.size, 0, none⟩) 1 1, W.alloc (.cells #[.int .u32 (o : Int), .int .u64 (r : Int), .int .i64 v] 31), ?_, hI.trans ((belowA W _).mono hI.size), belowA W _, ⟨W.heap.size, rfl, Blk.new _ _ _⟩⟩
          simp [execOp, e1, go_sem]
        · exact fun hh => absurd hh (by decide)
        · intro _
          exact OblD.move rfl _ (Or.inl rfl) (by kernel_rfl) rfl
        · intro _
          refine OblD.pure rfl (.pointer (some ⟨G, 0, none⟩)) (by kernel_rfl) rfl fun ev W hI hx => ?_
          have e98 : ev (.tmp 98) = .pointer (some ⟨G, 0, none⟩) := holds_valF (hx (.tmp 98)) (by kernel_rfl)
          simp [execOp, e98, go_sem]
        · intro _
          refine OblD.pure rfl (.pointer (some ⟨G, 2, none⟩)) (by kernel_rfl) rfl fun ev W hI hx => ?_
          have e99 : ev (.tmp 99) = .pointer (some ⟨G, 0, none⟩) := holds_valF (hx (.tmp 99)) (by kernel_rfl)
          simp [execOp, e99, go_sem]
        · intro _
          refine OblD.pure rfl (.slice (some ⟨b1, o1, none⟩) n c1) (by kernel_rfl) rfl fun ev W hI hx => ?_
          have e100 : ev (.tmp 100) = .pointer (some ⟨G, 2, none⟩) := holds_valF (hx (.tmp 100)) (by kernel_rfl)
          have hI : Below wq.heap.size wq W := hI
          have d0 : W.cell? ⟨G, 2, none⟩ = _ := (hI.cell (p := ⟨G, 2, none⟩) HWT.out.1).trans HWT.out.2.1
          simp [execOp, e100, go_sem, d0]
        · intro _
          exact OblD.move rfl _ (Or.inl rfl) (by kernel_rfl) rfl
        · intro _
          refine OblD.pure rfl (.slice Ar mr cr) (by kernel_rfl) rfl fun ev W hI hx => ?_
          have e1 : ev (.tmp 101) = .slice (some ⟨b1, o1, none⟩) n c1 := holds_valF (hx (.tmp 101)) (by kernel_rfl)
          have e2 : ev (.tmp 102) = .int .i64 (p : Int) := holds_valF (hx (.tmp 102)) (by kernel_rfl)
          have h1 := HCUT.out.2 W
          have h2 : (Instr.sliceAt 46 (.slice (some ⟨b1, o1, none⟩) n c1) (some (.int .i64 (p : Int))) none none).run Try.prog W = .ok (.slice Ar mr cr) W := (run_sliceAt_slice W 46 _ _ _ _ (by kernel_rfl)).trans h1
          simp [execOp, e1, e2, go_sem, h1, h2]
        · exact fun hh => absurd hh (by decide)
        · intro i oo him hsp hoo
          have hi2 : i = 8 ∨ i = 11 ∨ i = 18 := by
            have : (i = 8 ∨ i = 11) ∨ i = 18 := by simpa using hsp
            omega
          rcases hi2 with hi2 | hi2 | hi2
          · subst hi2
            obtain rfl := (Option.some.inj hoo).symm
            refine OblDX.step rfl fun ev W hI hpre hx => ?_
            have hI : Below wq.heap.size wq W := hI
            obtain ⟨g1, e0, hg1, bE⟩ := emX_of (ty := 31) (hx (.tmp 87)) (by kernel_rfl)
            have e7 : ev (.tmp 93) = .slice (some ⟨b1, o1, none⟩) p c1 := holds_valF (hx (.tmp 93)) (by kernel_rfl)
            have how : OwnTp W wq.heap.size (.slice (some ⟨g1, 0, none⟩) 0 0) [] := ownE 3 hg1 bE
            obtain ⟨v', W', hrun, ho', hg'⟩ := run_appendTp wq.heap.size _ [] how W.heap.size (some ⟨b1, o1, none⟩) p c1 (E.T.take p) (HSRT.out.1 W hI) (by simp; omega) hI.size
            refine ⟨v', W', run_op_append (.tmp 87) (.tmp 93) 46 rfl rfl _ _ _ e0 e7 hrun, below_grown hI hI.size hg' (fun k hk => by have hk : g1 = k := Option.some.inj hk; omega), ?_, fun j _ _ _ _ => trivial, ?_⟩
            · intro j uu hj hd hdep hh
              by_cases hj9 : j < 19
              · have : j = 10 ∨ j = 18 ∨ j = 1 ∨ j = 11 ∨ j = 0 ∨ j = 2 ∨ j = 3 ∨ j = 4 ∨ j = 5 ∨ j = 6 ∨ j = 7 ∨ j = 9 ∨ j = 12 ∨ j = 13 ∨ j = 14 ∨ j = 15 ∨ j = 16 ∨ j = 17 := by omega
                rcases this with rfl | rfl | rfl | rfl | rfl | rfl | rfl | rfl | rfl | rfl | rfl | rfl | rfl | rfl | rfl | rfl | rfl | rfl
                · obtain ⟨g, e, hb⟩ := tkT_of (xo := o) (xr := r) (xv := v) hh rfl
                  exact ⟨g, e, (hg'.block g hb.lt (fun e => by
                    have e : g = g1 := by injection e
                    have h1 := hb.cell 0
                    rw [e, bE.cell 0] at h1
                    simp at h1)).trans hb⟩
                · have hh : OwnTp W wq.heap.size uu ((E.T.take p ++ [(⟨o, r, v⟩ : Tup)]) ++ E.T.drop p) := hh
                  have hz : OwnTp W' wq.heap.size uu ((E.T.take p ++ [(⟨o, r, v⟩ : Tup)]) ++ E.T.drop p) := own_grown hh hg' (fun k h1 h2 => own_not_empty hh (by simp; omega) (by omega) bE (h1.trans h2.symm))
                  exact hz
                · exact absurd hd (by decide)
                · exact absurd ((hdep.symm).trans (by kernel_rfl : _ = true)) (by decide)
                all_goals exact hh
              · rw [tbl_outF (n := 19) rfl (by omega)]
                trivial
            · exact ho'
          · subst hi2
            obtain rfl := (Option.some.inj hoo).symm
            refine OblDX.step rfl fun ev W hI hpre hx => ?_
            have hI : Below wq.heap.size wq W := hI
            have o8 := tkK_of (L := E.T.take p) (hx (.tmp 94)) (by kernel_rfl)
            obtain ⟨g, e10, hb⟩ := tkT_of (xo := o) (xr := r) (xv := v) (hx (.tmp 96)) (by kernel_rfl)
            obtain ⟨v', W', hrun, ho', hg'⟩ := run_appendTp wq.heap.size _ (E.T.take p) o8 W.heap.size (some ⟨g, 0, none⟩) 1 1 [(⟨o, r, v⟩ : Tup)] (one_rt_b hb HI.out.2.1) (HLNT.out.1) hI.size
            refine ⟨v', W', run_op_append (.tmp 94) (.tmp 96) 46 rfl rfl _ _ _ rfl e10 hrun, below_grown hI hI.size hg' (fun k hk => (World.ownsRow.lt o8 k hk).1), ?_, fun j _ _ _ _ => trivial, ?_⟩
            · intro j uu hj hd hdep hh
              by_cases hj9 : j < 19
              · have : j = 1 ∨ j = 8 ∨ j = 10 ∨ j = 18 ∨ j = 0 ∨ j = 2 ∨ j = 3 ∨ j = 4 ∨ j = 5 ∨ j = 6 ∨ j = 7 ∨ j = 9 ∨ j = 12 ∨ j = 13 ∨ j = 14 ∨ j = 15 ∨ j = 16 ∨ j = 17 := by omega
                rcases this with rfl | rfl | rfl | rfl | rfl | rfl | rfl | rfl | rfl | rfl | rfl | rfl | rfl | rfl | rfl | rfl | rfl | rfl
                · exact absurd hd (by decide)
                · exact absurd hd (by decide)
                · exact absurd hd (by decide)
                · exact absurd ((hdep.symm).trans (by kernel_rfl : _ = true)) (by decide)
                all_goals exact hh
              · rw [tbl_outF (n := 19) rfl (by omega)]
                trivial
            · exact ho'
          · subst hi2
            obtain rfl := (Option.some.inj hoo).symm
            refine OblDX.step rfl fun ev W hI hpre hx => ?_
            have hI : Below wq.heap.size wq W := hI
            have o11 := tkK_of (L := E.T.take p ++ [(⟨o, r, v⟩ : Tup)]) (hx (.tmp 97)) (by kernel_rfl)
            have e17 : ev (.tmp 103) = .slice Ar mr cr := holds_valF (hx (.tmp 103)) (by kernel_rfl)
            obtain ⟨v', W', hrun, ho', hg'⟩ := run_appendTp wq.heap.size _ (E.T.take p ++ [(⟨o, r, v⟩ : Tup)]) o11 W.heap.size Ar mr cr (E.T.drop p) (HSRT.out.2 W hI) (HLNT.out.2) hI.size
            refine ⟨v', W', run_op_append (.tmp 97) (.tmp 103) 46 rfl rfl _ _ _ rfl e17 hrun, below_grown hI hI.size hg' (fun k hk => (World.ownsRow.lt o11 k hk).1), ?_, fun j _ _ _ _ => trivial, ?_⟩
            · intro j uu hj hd hdep hh
              by_cases hj9 : j < 19
              · have : j = 1 ∨ j = 8 ∨ j = 10 ∨ j = 11 ∨ j = 0 ∨ j = 2 ∨ j = 3 ∨ j = 4 ∨ j = 5 ∨ j = 6 ∨ j = 7 ∨ j = 9 ∨ j = 12 ∨ j = 13 ∨ j = 14 ∨ j = 15 ∨ j = 16 ∨ j = 17 := by omega
                rcases this with rfl | rfl | rfl | rfl | rfl | rfl | rfl | rfl | rfl | rfl | rfl | rfl | rfl | rfl | rfl | rfl | rfl | rfl
                · obtain ⟨g, e, hg1, hb⟩ := emX_of (ty := 31) hh rfl
                  exact ⟨g, e, hg1, (hg'.block g hb.lt (fun e => own_not_empty o11 (by simp) (by omega) hb e.symm)).trans hb⟩
                · exact absurd hd (by decide)
                · exact absurd hd (by decide)
                · exact absurd hd (by decide)
                all_goals exact hh
              · rw [tbl_outF (n := 19) rfl (by omega)]
                trivial
            · exact ho'
        intro aa W hI hsz hdf hold hv _
        have hI : Below wq.heap.size wq W := hI
        have o18 : OwnTp W wq.heap.size (aa.tmps.getD 104 undef) ((E.T.take p ++ [(⟨o, r, v⟩ : Tup)]) ++ E.T.drop p) := tkK_of (hv 18 (by decide) (by intro k; cases k <;> simp)) (by kernel_rfl)
        have v0 : aa.tmps.getD 86 undef = .pointer (some ⟨G, 0, none⟩) := holds_valF (hv 0 (by decide) (by intro k; simp)) (by kernel_rfl)
        have ha := act_puts [86, 87, 88, 89, 90, 91, 92, 93, 94, 95, 96, 97, 98, 99, 100, 101, 102, 103, 104, 105, 106] (by kernel_rfl) hsz hdf hold
        simp only [putAll, v0] at ha
        generalize aa.tmps.getD 104 undef = y18 at ha o18
        generalize aa.tmps.getD 87 undef = x87 at ha
        generalize aa.tmps.getD 88 undef = x88 at ha
        generalize aa.tmps.getD 89 undef = x89 at ha
        generalize aa.tmps.getD 90 undef = x90 at ha
        generalize aa.tmps.getD 91 undef = x91 at ha
        generalize aa.tmps.getD 92 undef = x92 at ha
        generalize aa.tmps.getD 93 undef = x93 at ha
        generalize aa.tmps.getD 94 undef = x94 at ha
        generalize aa.tmps.getD 95 undef = x95 at ha
        generalize aa.tmps.getD 96 undef = x96 at ha
        generalize aa.tmps.getD 97 undef = x97 at ha
        generalize aa.tmps.getD 98 undef = x98 at ha
        generalize aa.tmps.getD 99 undef = x99 at ha
        generalize aa.tmps.getD 100 undef = x100 at ha
        generalize aa.tmps.getD 101 undef = x101 at ha
        generalize aa.tmps.getD 102 undef = x102 at ha
        generalize aa.tmps.getD 103 undef = x103 at ha
        generalize aa.tmps.getD 105 undef = x105 at ha
        generalize aa.tmps.getD 106 undef = x106 at ha
        clear v0 hv hold hsz hdf
        subst ha
        simp only [List.toList_toArray, List.drop_succ_cons, List.drop_zero, Act.put, List.setIfInBounds_toArray, List.set_cons_succ, List.set_cons_zero]
        have hB := (hI.block G HWT.out.1).trans ((HBQ.out.block G H0.out.1.blk.lt).trans H0.out.1.blk)
        obtain ⟨A4, c4, e4, _⟩ := own_rx (cellsT_len _) o18
        obtain ⟨m4, hm4⟩ : ∃ m, m = ((E.T.take p ++ [(⟨o, r, v⟩ : Tup)]) ++ E.T.drop p).length := ⟨_, rfl⟩
        rw [← hm4] at e4
        subst e4
        have s2 : W.cell? ⟨G, 2, none⟩ = some (.slice (some ⟨b1, o1, none⟩) n c1) := Blk.cell hB 2
        have f2 := Blk.frozen hB 2
        have HB13 := Lib.hid (⟨hB, o18, hI⟩ : _ ∧ _ ∧ Below wq.heap.size wq W)
        clear hB o18 hI hm4
        go_upto_region 14 with (fail)
        have oG := OnlyS.one (S := fun k => k = G) (Only.set G 2 W (.slice A4 m4 c4)) rfl
        have hbW : Below w0.heap.size w0 W := HBQ.out.trans (HB13.out.2.2.mono HBQ.out.size)
        have h2o : OwnV (W.setCell ⟨G, 2, none⟩ (.slice A4 m4 c4)) 0 (.slice A2 n c2) E.U := own_onlyS (H0.out.1.on hbW).r2 oG (fun k hk (e : k = G) => H0.out.1.n2 (e ▸ hk))
        have hB14 : Blk (W.setCell ⟨G, 2, none⟩ (.slice A4 m4 c4)) G 56 #[.int .i64 (c : Int), .int .i64 (rbI rb), .slice A4 m4 c4, .slice A2 n c2] := by
          have := Blk.set_ HB13.out.1 2 (.slice A4 m4 c4)
          simpa only [List.setIfInBounds_toArray, List.set_cons_succ, List.set_cons_zero] using this
        have rN : RX (W.setCell ⟨G, 2, none⟩ (.slice A4 m4 c4)) (W.setCell ⟨G, 2, none⟩ (.slice A4 m4 c4)).heap.size A2 n c2 1 (E.U.map lv) := by
          obtain ⟨A', c', e, r', _⟩ := h2o.rx
          rw [E.U_len, ← HI.out.2.2.2] at e r'
          injection e with e1 _ e3
          subst e1 e3
          exact r'
        have HFI := Lib.hid (fun W' (v5 : Value) (hb : Below (W.setCell ⟨G, 2, none⟩ (.slice A4 m4 c4)).heap.size (W.setCell ⟨G, 2, none⟩ (.slice A4 m4 c4)) W') (ho : OwnV W' (W.setCell ⟨G, 2, none⟩ (.slice A4 m4 c4)).heap.size v5 ((E.U.take p ++ [un]) ++ E.U.drop p)) => fin_ins (E' := E.take p ++ ⟨⟨o, r, v⟩, untilE now⟩ :: E.drop p) H0.out.1 (by have := HA.out.1; rw [HGT.out] at this; exact this) hbW HB13.out.2.1 HBQ.out.size hb ho (Nat.le_trans hbW.size oG.size) (T_ins E p ⟨⟨o, r, v⟩, untilE now⟩).symm (by rw [HUN.out]; exact (U_ins E p ⟨⟨o, r, v⟩, untilE now⟩).symm))
        clear h2o oG s2 f2 hbW
        generalize W.setCell ⟨G, 2, none⟩ (.slice A4 m4 c4) = w4 at hB14 rN HFI ⊢
        have HWV := Lib.hid (⟨hB14.lt, hB14.cell 3, trivial⟩ : G < w4.heap.size ∧ w4.cell? ⟨G, 3, none⟩ = some (.slice A2 n c2) ∧ True)
        have HBB := Lib.hid hB14
        have hnc := rN.2.1
        obtain ⟨Ar, cr, hcut, rR⟩ := rN.restV hpn
        have rT := rN.takeV hpn
        rw [← hmr] at hcut rR
        have HSRV := Lib.hid (⟨fun W (hI : Below w4.heap.size w4 W) => rT.on hI, fun W (hI : Below w4.heap.size w4 W) => rR.on hI⟩ : (∀ W, Below w4.heap.size w4 W → RX W W.heap.size A2 p c2 1 ((E.U.take p).map lv)) ∧ ∀ W, Below w4.heap.size w4 W → RX W W.heap.size Ar mr cr 1 ((E.U.drop p).map lv))
        have HCUV := Lib.hid (⟨fun W => cut_toV A2 n c2 p (by omega) W, hcut⟩ : (∀ W, _) ∧ ∀ W, _)
        have HLNV := Lib.hid (⟨by rw [List.length_take, E.U_len]; omega, by rw [List.length_append, List.length_take, E.U_len]; simp; omega⟩ : (E.U.take p).length + 1 ≤ 4398046511104 ∧ (E.U.take p ++ [un]).length + mr ≤ 4398046511104)
        clear hB14 rN rT rR hcut hnc
        refine wp_region_d (F := tkF w4) (fun _ _ => True) (fun k j => (k == 8 && j == 1) || (k == 11 && (j == 1 || j == 8 || j == 10)) || (k == 18 && (j == 8 || j == 10 || j == 11))) (fun i => i == 8 || i == 11 || i == 18) (fun _ _ => True) 19
          [.val (.pointer (some ⟨G, 0, none⟩)), emX w4 2, .val (.pointer (some ⟨G, 0, none⟩)), .val (.pointer (some ⟨G, 0, none⟩)), .val (.pointer (some ⟨G, 3, none⟩)), .val (.slice A2 n c2), .val (.int .i64 (p : Int)), .val (.slice A2 p c2), tkU w4 (E.U.take p), .val (.int .i64 un), tkV w4 un, tkU w4 (E.U.take p ++ [un]), .val (.pointer (some ⟨G, 0, none⟩)), .val (.pointer (some ⟨G, 0, none⟩)), .val (.pointer (some ⟨G, 3, none⟩)), .val (.slice A2 n c2), .val (.int .i64 (p : Int)), .val (.slice Ar mr cr), tkU w4 ((E.U.take p ++ [un]) ++ E.U.drop p)]
          (fun _ _ _ _ => trivial) (by kernel_rfl) (by kernel_rfl) (by kernel_rfl) (by decide) (by kernel_rfl) (belowDrewN w4 1) (fun i hi => trivial) (fun i a b _ _ _ _ _ => trivial) (AllOblD.upto ⟨?_, ?_, ?_, ?_, ?_, ?_, ?_, ?_, ?_, ?_, ?_, ?_, ?_, ?_, ?_, ?_, ?_, ?_, ?_, trivial⟩) ?_ ?_
        · intro _
          exact OblD.move rfl _ (Or.inl rfl) (by kernel_rfl) rfl
        · intro _
          refine OblD.step rfl fun ev W hI hx => ?_
          have hI : Below w4.heap.size w4 W := hI
          refine ⟨.slice (some ⟨W.heap.size, 0, none⟩) 0 0, W.alloc (.cells #[] 2), ?_, hI.trans ((belowA W _).mono hI.size), belowA W _, ⟨W.heap.size, rfl, hI.size, Blk.new _ _ _⟩⟩
          simp [execOp, go_sem]
        · intro _
          exact OblD.move rfl _ (Or.inl rfl) (by kernel_rfl) rfl
        · intro _
          refine OblD.pure rfl (.pointer (some ⟨G, 0, none⟩)) (by kernel_rfl) rfl fun ev W hI hx => ?_
          have e109 : ev (.tmp 109) = .pointer (some ⟨G, 0, none⟩) := holds_valF (hx (.tmp 109)) (by kernel_rfl)
          simp [execOp, e109, go_sem]
        · intro _
          refine OblD.pure rfl (.pointer (some ⟨G, 3, none⟩)) (by kernel_rfl) rfl fun ev W hI hx => ?_
          have e110 : ev (.tmp 110) = .pointer (some ⟨G, 0, none⟩) := holds_valF (hx (.tmp 110)) (by kernel_rfl)
          simp [execOp, e110, go_sem]
        · intro _
          refine OblD.pure rfl (.slice A2 n c2) (by kernel_rfl) rfl fun ev W hI hx => ?_
          have e111 : ev (.tmp 111) = .pointer (some ⟨G, 3, none⟩) := holds_valF (hx (.tmp 111)) (by kernel_rfl)
          have hI : Below w4.heap.size w4 W := hI
          have d0 : W.cell? ⟨G, 3, none⟩ = _ := (hI.cell (p := ⟨G, 3, none⟩) HWV.out.1).trans HWV.out.2.1
          simp [execOp, e111, go_sem, d0]
        · intro _
          exact OblD.move rfl _ (Or.inl rfl) (by kernel_rfl) rfl
        · intro _
          refine OblD.pure rfl (.slice A2 p c2) (by kernel_rfl) rfl fun ev W hI hx => ?_
          have e1 : ev (.tmp 112) = .slice A2 n c2 := holds_valF (hx (.tmp 112)) (by kernel_rfl)
          have e2 : ev (.tmp 113) = .int .i64 (p : Int) := holds_valF (hx (.tmp 113)) (by kernel_rfl)
          have h1 := HCUV.out.1 W
          have h2 : (Instr.sliceAt 54 (.slice A2 n c2) none (some (.int .i64 (p : Int))) none).run Try.prog W = .ok (.slice A2 p c2) W := (run_sliceAt_slice W 54 _ _ _ _ (by kernel_rfl)).trans h1
          simp [execOp, e1, e2, go_sem, h1, h2]
        · exact fun hh => absurd hh (by decide)
        · intro _
          exact OblD.move rfl _ (Or.inl rfl) (by kernel_rfl) rfl
        · intro _
          refine OblD.step rfl fun ev W hI hx => ?_
          have e1 : ev (.tmp 116) = .int .i64 un := holds_valF (hx (.tmp 116)) (by kernel_rfl)
          have hI : Below w4.heap.size w4 W := hI
          refine ⟨.slice (some ⟨W.heap.size, 0, none⟩) 1 1, W.alloc (.cells #[.int .i64 un] 2), ?_, hI.trans ((belowA W _).mono hI.size), belowA W _, ⟨W.heap.size, rfl, Blk.new _ _ _⟩⟩
          simp [execOp, e1, go_sem]
        · exact fun hh => absurd hh (by decide)
        · intro _
          exact OblD.move rfl _ (Or.inl rfl) (by kernel_rfl) rfl
        · intro _
          refine OblD.pure rfl (.pointer (some ⟨G, 0, none⟩)) (by kernel_rfl) rfl fun ev W hI hx => ?_
          have e119 : ev (.tmp 119) = .pointer (some ⟨G, 0, none⟩) := holds_valF (hx (.tmp 119)) (by kernel_rfl)
          simp [execOp, e119, go_sem]
        · intro _
          refine OblD.pure rfl (.pointer (some ⟨G, 3, none⟩)) (by kernel_rfl) rfl fun ev W hI hx => ?_
          have e120 : ev (.tmp 120) = .pointer (some ⟨G, 0, none⟩) := holds_valF (hx (.tmp 120)) (by kernel_rfl)
          simp [execOp, e120, go_sem]
        · intro _
          refine OblD.pure rfl (.slice A2 n c2) (by kernel_rfl) rfl fun ev W hI hx => ?_
          have e121 : ev (.tmp 121) = .pointer (some ⟨G, 3, none⟩) := holds_valF (hx (.tmp 121)) (by kernel_rfl)
          have hI : Below w4.heap.size w4 W := hI
          have d0 : W.cell? ⟨G, 3, none⟩ = _ := (hI.cell (p := ⟨G, 3, none⟩) HWV.out.1).trans HWV.out.2.1
          simp [execOp, e121, go_sem, d0]
        · intro _
          exact OblD.move rfl _ (Or.inl rfl) (by kernel_rfl) rfl
        · intro _
          refine OblD.pure rfl (.slice Ar mr cr) (by kernel_rfl) rfl fun ev W hI hx => ?_
          have e1 : ev (.tmp 122) = .slice A2 n c2 := holds_valF (hx (.tmp 122)) (by kernel_rfl)
          have e2 : ev (.tmp 123) = .int .i64 (p : Int) := holds_valF (hx (.tmp 123)) (by kernel_rfl)
          have h1 := HCUV.out.2 W
          have h2 : (Instr.sliceAt 54 (.slice A2 n c2) (some (.int .i64 (p : Int))) none none).run Try.prog W = .ok (.slice Ar mr cr) W := (run_sliceAt_slice W 54 _ _ _ _ (by kernel_rfl)).trans h1
          simp [execOp, e1, e2, go_sem, h1, h2]
        · exact fun hh => absurd hh (by decide)
        · intro i oo him hsp hoo
          have hi2 : i = 8 ∨ i = 11 ∨ i = 18 := by
            have : (i = 8 ∨ i = 11) ∨ i = 18 := by simpa using hsp
            omega
          rcases hi2 with hi2 | hi2 | hi2
          · subst hi2
            obtain rfl := (Option.some.inj hoo).symm
            refine OblDX.step rfl fun ev W hI hpre hx => ?_
            have hI : Below w4.heap.size w4 W := hI
            obtain ⟨g1, e0, hg1, bE⟩ := emX_of (ty := 2) (hx (.tmp 108)) (by kernel_rfl)
            have e7 : ev (.tmp 114) = .slice A2 p c2 := holds_valF (hx (.tmp 114)) (by kernel_rfl)
            have how : OwnV W w4.heap.size (.slice (some ⟨g1, 0, none⟩) 0 0) [] := ownE 1 hg1 bE
            obtain ⟨v', W', hrun, ho', hg', _⟩ := run_appendV w4.heap.size _ [] how W.heap.size A2 p c2 (E.U.take p) (HSRV.out.1 W hI) (by simp; omega) hI.size
            refine ⟨v', W', run_op_append (.tmp 108) (.tmp 114) 54 rfl rfl _ _ _ e0 e7 hrun, below_grown hI hI.size hg' (fun k hk => by have hk : g1 = k := Option.some.inj hk; omega), ?_, fun j _ _ _ _ => trivial, ?_⟩
            · intro j uu hj hd hdep hh
              by_cases hj9 : j < 19
              · have : j = 10 ∨ j = 18 ∨ j = 1 ∨ j = 11 ∨ j = 0 ∨ j = 2 ∨ j = 3 ∨ j = 4 ∨ j = 5 ∨ j = 6 ∨ j = 7 ∨ j = 9 ∨ j = 12 ∨ j = 13 ∨ j = 14 ∨ j = 15 ∨ j = 16 ∨ j = 17 := by omega
                rcases this with rfl | rfl | rfl | rfl | rfl | rfl | rfl | rfl | rfl | rfl | rfl | rfl | rfl | rfl | rfl | rfl | rfl | rfl
                · obtain ⟨g, e, hb⟩ := tkV_of (u := un) hh rfl
                  exact ⟨g, e, (hg'.block g hb.lt (fun e => by
                    have e : g = g1 := by injection e
                    have h1 := hb.cell 0
                    rw [e, bE.cell 0] at h1
                    simp at h1)).trans hb⟩
                · have hh : OwnV W w4.heap.size uu ((E.U.take p ++ [un]) ++ E.U.drop p) := hh
                  have hz : OwnV W' w4.heap.size uu ((E.U.take p ++ [un]) ++ E.U.drop p) := own_grown hh hg' (fun k h1 h2 => own_not_empty hh (by simp; omega) (by omega) bE (h1.trans h2.symm))
                  exact hz
                · exact absurd hd (by decide)
                · exact absurd ((hdep.symm).trans (by kernel_rfl : _ = true)) (by decide)
                all_goals exact hh
              · rw [tbl_outF (n := 19) rfl (by omega)]
                trivial
            · exact ho'
          · subst hi2
            obtain rfl := (Option.some.inj hoo).symm
            refine OblDX.step rfl fun ev W hI hpre hx => ?_
            have hI : Below w4.heap.size w4 W := hI
            have o8 := tkU_of (L := E.U.take p) (hx (.tmp 115)) (by kernel_rfl)
            obtain ⟨g, e10, hb⟩ := tkV_of (u := un) (hx (.tmp 117)) (by kernel_rfl)
            obtain ⟨v', W', hrun, ho', hg', _⟩ := run_appendV w4.heap.size _ (E.U.take p) o8 W.heap.size (some ⟨g, 0, none⟩) 1 1 [un] (one_rx_b hb) (HLNV.out.1) hI.size
            refine ⟨v', W', run_op_append (.tmp 115) (.tmp 117) 54 rfl rfl _ _ _ rfl e10 hrun, below_grown hI hI.size hg' (fun k hk => (World.ownsRow.lt o8 k hk).1), ?_, fun j _ _ _ _ => trivial, ?_⟩
            · intro j uu hj hd hdep hh
              by_cases hj9 : j < 19
              · have : j = 1 ∨ j = 8 ∨ j = 10 ∨ j = 18 ∨ j = 0 ∨ j = 2 ∨ j = 3 ∨ j = 4 ∨ j = 5 ∨ j = 6 ∨ j = 7 ∨ j = 9 ∨ j = 12 ∨ j = 13 ∨ j = 14 ∨ j = 15 ∨ j = 16 ∨ j = 17 := by omega
                rcases this with rfl | rfl | rfl | rfl | rfl | rfl | rfl | rfl | rfl | rfl | rfl | rfl | rfl | rfl | rfl | rfl | rfl | rfl
                · exact absurd hd (by decide)
                · exact absurd hd (by decide)
                · exact absurd hd (by decide)
                · exact absurd ((hdep.symm).trans (by kernel_rfl : _ = true)) (by decide)
                all_goals exact hh
              · rw [tbl_outF (n := 19) rfl (by omega)]
                trivial
            · exact ho'
          · subst hi2
            obtain rfl := (Option.some.inj hoo).symm
            refine OblDX.step rfl fun ev W hI hpre hx => ?_
            have hI : Below w4.heap.size w4 W := hI
            have o11 := tkU_of (L := E.U.take p ++ [un]) (hx (.tmp 118)) (by kernel_rfl)
            have e17 : ev (.tmp 124) = .slice Ar mr cr := holds_valF (hx (.tmp 124)) (by kernel_rfl)
            obtain ⟨v', W', hrun, ho', hg', _⟩ := run_appendV w4.heap.size _ (E.U.take p ++ [un]) o11 W.heap.size Ar mr cr (E.U.drop p) (HSRV.out.2 W hI) (HLNV.out.2) hI.size
            refine ⟨v', W', run_op_append (.tmp 118) (.tmp 124) 54 rfl rfl _ _ _ rfl e17 hrun, below_grown hI hI.size hg' (fun k hk => (World.ownsRow.lt o11 k hk).1), ?_, fun j _ _ _ _ => trivial, ?_⟩
            · intro j uu hj hd hdep hh
              by_cases hj9 : j < 19
              · have : j = 1 ∨ j = 8 ∨ j = 10 ∨ j = 11 ∨ j = 0 ∨ j = 2 ∨ j = 3 ∨ j = 4 ∨ j = 5 ∨ j = 6 ∨ j = 7 ∨ j = 9 ∨ j = 12 ∨ j = 13 ∨ j = 14 ∨ j = 15 ∨ j = 16 ∨ j = 17 := by omega
                rcases this with rfl | rfl | rfl | rfl | rfl | rfl | rfl | rfl | rfl | rfl | rfl | rfl | rfl | rfl | rfl | rfl | rfl | rfl
                · obtain ⟨g, e, hg1, hb⟩ := emX_of (ty := 2) hh rfl
                  exact ⟨g, e, hg1, (hg'.block g hb.lt (fun e => own_not_empty o11 (by simp) (by omega) hb e.symm)).trans hb⟩
                · exact absurd hd (by decide)
                · exact absurd hd (by decide)
                · exact absurd hd (by decide)
                all_goals exact hh
              · rw [tbl_outF (n := 19) rfl (by omega)]
                trivial
            · exact ho'
        intro aa W hI hsz hdf hold hv _
        have hI : Below w4.heap.size w4 W := hI
        have o18 : OwnV W w4.heap.size (aa.tmps.getD 125 undef) ((E.U.take p ++ [un]) ++ E.U.drop p) := tkU_of (hv 18 (by decide) (by intro k; cases k <;> simp)) (by kernel_rfl)
        have v0 : aa.tmps.getD 107 undef = .pointer (some ⟨G, 0, none⟩) := holds_valF (hv 0 (by decide) (by intro k; simp)) (by kernel_rfl)
        have ha := act_puts [107, 108, 109, 110, 111, 112, 113, 114, 115, 116, 117, 118, 119, 120, 121, 122, 123, 124, 125, 126, 127] (by kernel_rfl) hsz hdf hold
        simp only [putAll, v0] at ha
        generalize aa.tmps.getD 125 undef = y18 at ha o18
        generalize aa.tmps.getD 108 undef = x108 at ha
        generalize aa.tmps.getD 109 undef = x109 at ha
        generalize aa.tmps.getD 110 undef = x110 at ha
        generalize aa.tmps.getD 111 undef = x111 at ha
        generalize aa.tmps.getD 112 undef = x112 at ha
        generalize aa.tmps.getD 113 undef = x113 at ha
        generalize aa.tmps.getD 114 undef = x114 at ha
        generalize aa.tmps.getD 115 undef = x115 at ha
        generalize aa.tmps.getD 116 undef = x116 at ha
        generalize aa.tmps.getD 117 undef = x117 at ha
        generalize aa.tmps.getD 118 undef = x118 at ha
        generalize aa.tmps.getD 119 undef = x119 at ha
        generalize aa.tmps.getD 120 undef = x120 at ha
        generalize aa.tmps.getD 121 undef = x121 at ha
        generalize aa.tmps.getD 122 undef = x122 at ha
        generalize aa.tmps.getD 123 undef = x123 at ha
        generalize aa.tmps.getD 124 undef = x124 at ha
        generalize aa.tmps.getD 126 undef = x126 at ha
        generalize aa.tmps.getD 127 undef = x127 at ha
        clear v0 hv hold hsz hdf
        subst ha
        simp only [List.toList_toArray, List.drop_succ_cons, List.drop_zero, Act.put, List.setIfInBounds_toArray, List.set_cons_succ, List.set_cons_zero]
        have hB := (hI.block G HWV.out.1).trans HBB.out
        obtain ⟨A5, c5, e5, _⟩ := o18.rx
        obtain ⟨m5, hm5⟩ : ∃ m, m = ((E.U.take p ++ [un]) ++ E.U.drop p).length := ⟨_, rfl⟩
        rw [← hm5] at e5
        subst e5
        have s3 : W.cell? ⟨G, 3, none⟩ = some (.slice A2 n c2) := Blk.cell hB 3
        have f3 := Blk.frozen hB 3
        have HEND := Lib.hid (HFI.out W (.slice A5 m5 c5) hI o18)
        clear hB o18 hI hm5 hmr
        go_wp2_with fail
        go_ret
        rw [HPUT.out.1, HPUT.out.2]
        exact HEND.out
      · have s6 : decide ((6 : Int) ≤ (n : Int)) = true := by simp; omega
        have s6n : decide (6 ≤ n) = true := by simp; omega
        have HPUT := Lib.hid (⟨putE_full HNO.out (by rw [← HI.out.2.2.2]; exact h6), by unfold okE; rw [HNO.out, ← HI.out.2.2.2]; simp [h6]⟩ : putE E ⟨⟨o, r, v⟩, untilE now⟩ = E ∧ okE E o = false)
        have hmr := HPUT
        clear k3 t0 t1 t2 hmr
        go_wp2_with fail
        go_ret
        rw [HPUT.out.1, HPUT.out.2]
        exact ⟨rfl, _, _, H0.out.1.on HBQ.out, fun k hk => .inl hk, (OnlyS.of (S := RlS G (.slice (some ⟨b1, o1, none⟩) n c1) (.slice A2 n c2)) (by have := HA.out.1; rw [HGT.out] at this; exact this)).trans (OnlyS.of (S := RlS G (.slice (some ⟨b1, o1, none⟩) n c1) (.slice A2 n c2)) HBQ.out) (fun i hi _ => hi)⟩
    · have HNO := Lib.hid hno
      have g1 : decide ((p : Int) < (n : Int)) = false := by simp; omega
      have g1n : decide (p < n) = false := by simp; omega
      clear hh hno k3 t0 t1 t2
      go_upto_region 7 with (fail)
      go_quiet (fail)
      have bq : Below w0.heap.size w0 (wz.drewN nq) := HB.out.trans ((belowDrewN wz nq).mono HB.out.size)
      clear k2 g1 g1n
      generalize wz.drewN nq = wq at bq ⊢
      obtain ⟨k2, k3, t0, t1, t2⟩ := HC.out wq bq
      have HBQ := Lib.hid bq
      by_cases h6 : n < 6
      · have s6 : decide ((6 : Int) ≤ (n : Int)) = false := by simp; omega
        have s6n : decide (6 ≤ n) = false := by simp; omega
        have HPUT := Lib.hid (⟨by rw [putE_room HNO.out (by rw [← HI.out.2.2.2]; exact h6), ← HPO.out], by unfold okE; rw [HNO.out, ← HI.out.2.2.2]; simp [h6]⟩ : putE E ⟨⟨o, r, v⟩, untilE now⟩ = E.take p ++ ⟨⟨o, r, v⟩, untilE now⟩ :: E.drop p ∧ okE E o = true)
        have HWT := Lib.hid (⟨Nat.lt_of_lt_of_le H0.out.1.blk.lt bq.size, k2, trivial⟩ : G < wq.heap.size ∧ wq.cell? ⟨G, 2, none⟩ = some (.slice A1 n c1) ∧ True)
        have hgq : gT < wq.heap.size := Nat.lt_of_lt_of_le H0.out.2.lt bq.size
        have HTT := Lib.hid (fun W (hI : Below wq.heap.size wq W) => (⟨(hI.cell (p := ⟨gT, 0, none⟩) hgq).trans t0, (hI.cell (p := ⟨gT, 1, none⟩) hgq).trans t1, (hI.cell (p := ⟨gT, 2, none⟩) hgq).trans t2⟩ : W.cell? ⟨gT, 0, none⟩ = some (.int .u32 (o : Int)) ∧ W.cell? ⟨gT, 1, none⟩ = some (.int .u64 (r : Int)) ∧ W.cell? ⟨gT, 2, none⟩ = some (.int .i64 v)))
        have rN := HRT.out wq bq
        have hnc := rN.2.2.2.1
        obtain ⟨Ar, cr, hcut, rR⟩ := rN.restN hpn
        have rT := rN.takeN hpn
        obtain ⟨mr, hmr⟩ : ∃ m, m = n - p := ⟨_, rfl⟩
        rw [← hmr] at hcut rR
        have HSRT := Lib.hid (⟨fun W (hI : Below wq.heap.size wq W) => rT.on hI, fun W (hI : Below wq.heap.size wq W) => rR.on hI⟩ : (∀ W, Below wq.heap.size wq W → RT W W.heap.size A1 p c1 (E.T.take p)) ∧ ∀ W, Below wq.heap.size wq W → RT W W.heap.size Ar mr cr (E.T.drop p))
        have HCUT := Lib.hid (⟨fun W => cut_toT A1 n c1 p (by omega) W, hcut⟩ : (∀ W, _) ∧ ∀ W, _)
        have HLNT := Lib.hid (⟨by rw [List.length_take, E.T_len]; omega, by rw [List.length_append, List.length_take, E.T_len]; simp; omega⟩ : (E.T.take p).length + 1 ≤ 4398046511104 ∧ (E.T.take p ++ [(⟨o, r, v⟩ : Tup)]).length + mr ≤ 4398046511104)
        clear k3 t0 t1 t2 hgq rN rT rR hcut hnc
        go_upto_region 13 with (fail)
        clear k2 s6 s6n
        refine wp_region_d (F := tkF wq) (fun _ _ => True) (fun k j => (k == 8 && j == 1) || (k == 11 && (j == 1 || j == 8 || j == 10)) || (k == 18 && (j == 8 || j == 10 || j == 11))) (fun i => i == 8 || i == 11 || i == 18) (fun _ _ => True) 19
          [.val (.pointer (some ⟨G, 0, none⟩)), emX wq 31, .val (.pointer (some ⟨G, 0, none⟩)), .val (.pointer (some ⟨G, 0, none⟩)), .val (.pointer (some ⟨G, 2, none⟩)), .val (.slice A1 n c1), .val (.int .i64 (p : Int)), .val (.slice A1 p c1), tkK wq (E.T.take p), .val (.agg #[.int .u32 (o : Int), .int .u64 (r : Int), .int .i64 v]), tkT wq o r v, tkK wq (E.T.take p ++ [(⟨o, r, v⟩ : Tup)]), .val (.pointer (some ⟨G, 0, none⟩)), .val (.pointer (some ⟨G, 0, none⟩)), .val (.pointer (some ⟨G, 2, none⟩)), .val (.slice A1 n c1), .val (.int .i64 (p : Int)), .val (.slice Ar mr cr), tkK wq ((E.T.take p ++ [(⟨o, r, v⟩ : Tup)]) ++ E.T.drop p)]
          (fun _ _ _ _ => trivial) (by kernel_rfl) (by kernel_rfl) (by kernel_rfl) (by decide) (by kernel_rfl) (belowDrewN wq 1) (fun i hi => trivial) (fun i a b _ _ _ _ _ => trivial) (AllOblD.upto ⟨?_, ?_, ?_, ?_, ?_, ?_, ?_, ?_, ?_, ?_, ?_, ?_, ?_, ?_, ?_, ?_, ?_, ?_, ?_, trivial⟩) ?_ ?_
        · intro _
          exact OblD.move rfl _ (Or.inl rfl) (by kernel_rfl) rfl
        · intro _
          refine OblD.step rfl fun ev W hI hx => ?_
          have hI : Below wq.heap.size wq W := hI
          refine ⟨.slice (some ⟨W.heap.size, 0, none⟩) 0 0, W.alloc (.cells #[] 31), ?_, hI.trans ((belowA W _).mono hI.size), belowA W _, ⟨W.heap.size, rfl, hI.size, Blk.new _ _ _⟩⟩
          simp [execOp, go_sem]
        · intro _
          exact OblD.move rfl _ (Or.inl rfl) (by kernel_rfl) rfl
        · intro _
          refine OblD.pure rfl (.pointer (some ⟨G, 0, none⟩)) (by kernel_rfl) rfl fun ev W hI hx => ?_
          have e88 : ev (.tmp 88) = .pointer (some ⟨G, 0, none⟩) := holds_valF (hx (.tmp 88)) (by kernel_rfl)
          simp [execOp, e88, go_sem]
        · intro _
          refine OblD.pure rfl (.pointer (some ⟨G, 2, none⟩)) (by kernel_rfl) rfl fun ev W hI hx => ?_
          have e89 : ev (.tmp 89) = .pointer (some ⟨G, 0, none⟩) := holds_valF (hx (.tmp 89)) (by kernel_rfl)
          simp [execOp, e89, go_sem]
        · intro _
          refine OblD.pure rfl (.slice A1 n c1) (by kernel_rfl) rfl fun ev W hI hx => ?_
          have e90 : ev (.tmp 90) = .pointer (some ⟨G, 2, none⟩) := holds_valF (hx (.tmp 90)) (by kernel_rfl)
          have hI : Below wq.heap.size wq W := hI
          have d0 : W.cell? ⟨G, 2, none⟩ = _ := (hI.cell (p := ⟨G, 2, none⟩) HWT.out.1).trans HWT.out.2.1
          simp [execOp, e90, go_sem, d0]
        · intro _
          exact OblD.move rfl _ (Or.inl rfl) (by kernel_rfl) rfl
        · intro _
          refine OblD.pure rfl (.slice A1 p c1) (by kernel_rfl) rfl fun ev W hI hx => ?_
          have e1 : ev (.tmp 91) = .slice A1 n c1 := holds_valF (hx (.tmp 91)) (by kernel_rfl)
          have e2 : ev (.tmp 92) = .int .i64 (p : Int) := holds_valF (hx (.tmp 92)) (by kernel_rfl)
          have h1 := HCUT.out.1 W
          have h2 : (Instr.sliceAt 46 (.slice A1 n c1) none (some (.int .i64 (p : Int))) none).run Try.prog W = .ok (.slice A1 p c1) W := (run_sliceAt_slice W 46 _ _ _ _ (by kernel_rfl)).trans h1
          simp [execOp, e1, e2, go_sem, h1, h2]
        · exact fun hh => absurd hh (by decide)
        · intro _
          refine OblD.pure rfl (.agg #[.int .u32 (o : Int), .int .u64 (r : Int), .int .i64 v]) (by kernel_rfl) rfl fun ev W hI hx => ?_
          have e4 : ev (.tmp 4) = .pointer (some ⟨gT, 0, none⟩) := holds_valF (hx (.tmp 4)) (by kernel_rfl)
          have hI : Below wq.heap.size wq W := hI
          obtain ⟨d0, d1, d2⟩ := HTT.out W hI
          simp [execOp, e4, go_sem, d0, d1, d2]
        · intro _
          refine OblD.step rfl fun ev W hI hx => ?_
          have e1 : ev (.tmp 95) = .agg #[.int .u32 (o : Int), .int .u64 (r : Int), .int .i64 v] := holds_valF (hx (.tmp 95)) (by kernel_rfl)
          have hI : Below wq.heap.size wq W := hI
          refine ⟨.slice (some ⟨W.heap.size, 0, none⟩) 1 1, W.alloc (.cells #[.int .u32 (o : Int), .int .u64 (r : Int), .int .i64 v] 31), ?_, hI.trans ((belowA W _).mono hI.size), belowA W _, ⟨W.heap.size, rfl, Blk.new _ _ _⟩⟩
          simp [execOp, e1, go_sem]
        · exact fun hh => absurd hh (by decide)
        · intro _
          exact OblD.move rfl _ (Or.inl rfl) (by kernel_rfl) rfl
        · intro _
          refine OblD.pure rfl (.pointer (some ⟨G, 0, none⟩)) (by kernel_rfl) rfl fun ev W hI hx => ?_
          have e98 : ev (.tmp 98) = .pointer (some ⟨G, 0, none⟩) := holds_valF (hx (.tmp 98)) (by kernel_rfl)
          simp [execOp, e98, go_sem]
        · intro _
          refine OblD.pure rfl (.pointer (some ⟨G, 2, none⟩)) (by kernel_rfl) rfl fun ev W hI hx => ?_
          have e99 : ev (.tmp 99) = .pointer (some ⟨G, 0, none⟩) := holds_valF (hx (.tmp 99)) (by kernel_rfl)
          simp [execOp, e99, go_sem]
        · intro _
          refine OblD.pure rfl (.slice A1 n c1) (by kernel_rfl) rfl fun ev W hI hx => ?_
          have e100 : ev (.tmp 100) = .pointer (some ⟨G, 2, none⟩) := holds_valF (hx (.tmp 100)) (by kernel_rfl)
          have hI : Below wq.heap.size wq W := hI
          have d0 : W.cell? ⟨G, 2, none⟩ = _ := (hI.cell (p := ⟨G, 2, none⟩) HWT.out.1).trans HWT.out.2.1
          simp [execOp, e100, go_sem, d0]
        · intro _
          exact OblD.move rfl _ (Or.inl rfl) (by kernel_rfl) rfl
        · intro _
          refine OblD.pure rfl (.slice Ar mr cr) (by kernel_rfl) rfl fun ev W hI hx => ?_
          have e1 : ev (.tmp 101) = .slice A1 n c1 := holds_valF (hx (.tmp 101)) (by kernel_rfl)
          have e2 : ev (.tmp 102) = .int .i64 (p : Int) := holds_valF (hx (.tmp 102)) (by kernel_rfl)
          have h1 := HCUT.out.2 W
          have h2 : (Instr.sliceAt 46 (.slice A1 n c1) (some (.int .i64 (p : Int))) none none).run Try.prog W = .ok (.slice Ar mr cr) W := (run_sliceAt_slice W 46 _ _ _ _ (by kernel_rfl)).trans h1
          simp [execOp, e1, e2, go_sem, h1, h2]
        · exact fun hh => absurd hh (by decide)
        · intro i oo him hsp hoo
          have hi2 : i = 8 ∨ i = 11 ∨ i = 18 := by
            have : (i = 8 ∨ i = 11) ∨ i = 18 := by simpa using hsp
            omega
          rcases hi2 with hi2 | hi2 | hi2
          · subst hi2
            obtain rfl := (Option.some.inj hoo).symm
            refine OblDX.step rfl fun ev W hI hpre hx => ?_
            have hI : Below wq.heap.size wq W := hI
            obtain ⟨g1, e0, hg1, bE⟩ := emX_of (ty := 31) (hx (.tmp 87)) (by kernel_rfl)
            have e7 : ev (.tmp 93) = .slice A1 p c1 := holds_valF (hx (.tmp 93)) (by kernel_rfl)
            have how : OwnTp W wq.heap.size (.slice (some ⟨g1, 0, none⟩) 0 0) [] := ownE 3 hg1 bE
            obtain ⟨v', W', hrun, ho', hg'⟩ := run_appendTp wq.heap.size _ [] how W.heap.size A1 p c1 (E.T.take p) (HSRT.out.1 W hI) (by simp; omega) hI.size
            refine ⟨v', W', run_op_append (.tmp 87) (.tmp 93) 46 rfl rfl _ _ _ e0 e7 hrun, below_grown hI hI.size hg' (fun k hk => by have hk : g1 = k := Option.some.inj hk; omega), ?_, fun j _ _ _ _ => trivial, ?_⟩
            · intro j uu hj hd hdep hh
              by_cases hj9 : j < 19
              · have : j = 10 ∨ j = 18 ∨ j = 1 ∨ j = 11 ∨ j = 0 ∨ j = 2 ∨ j = 3 ∨ j = 4 ∨ j = 5 ∨ j = 6 ∨ j = 7 ∨ j = 9 ∨ j = 12 ∨ j = 13 ∨ j = 14 ∨ j = 15 ∨ j = 16 ∨ j = 17 := by omega
                rcases this with rfl | rfl | rfl | rfl | rfl | rfl | rfl | rfl | rfl | rfl | rfl | rfl | rfl | rfl | rfl | rfl | rfl | rfl
                · obtain ⟨g, e, hb⟩ := tkT_of (xo := o) (xr := r) (xv := v) hh rfl
                  exact ⟨g, e, (hg'.block g hb.lt (fun e => by
                    have e : g = g1 := by injection e
                    have h1 := hb.cell 0
                    rw [e, bE.cell 0] at h1
                    simp at h1)).trans hb⟩
                · have hh : OwnTp W wq.heap.size uu ((E.T.take p ++ [(⟨o, r, v⟩ : Tup)]) ++ E.T.drop p) := hh
                  have hz : OwnTp W' wq.heap.size uu ((E.T.take p ++ [(⟨o, r, v⟩ : Tup)]) ++ E.T.drop p) := own_grown hh hg' (fun k h1 h2 => own_not_empty hh (by simp; omega) (by omega) bE (h1.trans h2.symm))
                  exact hz
                · exact absurd hd (by decide)
                · exact absurd ((hdep.symm).trans (by kernel_rfl : _ = true)) (by decide)
                all_goals exact hh
              · rw [tbl_outF (n := 19) rfl (by omega)]
                trivial
            · exact ho'
          · subst hi2
            obtain rfl := (Option.some.inj hoo).symm
            refine OblDX.step rfl fun ev W hI hpre hx => ?_
            have hI : Below wq.heap.size wq W := hI
            have o8 := tkK_of (L := E.T.take p) (hx (.tmp 94)) (by kernel_rfl)
            obtain ⟨g, e10, hb⟩ := tkT_of (xo := o) (xr := r) (xv := v) (hx (.tmp 96)) (by kernel_rfl)
            obtain ⟨v', W', hrun, ho', hg'⟩ := run_appendTp wq.heap.size _ (E.T.take p) o8 W.heap.size (some ⟨g, 0, none⟩) 1 1 [(⟨o, r, v⟩ : Tup)] (one_rt_b hb HI.out.2.1) (HLNT.out.1) hI.size
            refine ⟨v', W', run_op_append (.tmp 94) (.tmp 96) 46 rfl rfl _ _ _ rfl e10 hrun, below_grown hI hI.size hg' (fun k hk => (World.ownsRow.lt o8 k hk).1), ?_, fun j _ _ _ _ => trivial, ?_⟩
            · intro j uu hj hd hdep hh
              by_cases hj9 : j < 19
              · have : j = 1 ∨ j = 8 ∨ j = 10 ∨ j = 18 ∨ j = 0 ∨ j = 2 ∨ j = 3 ∨ j = 4 ∨ j = 5 ∨ j = 6 ∨ j = 7 ∨ j = 9 ∨ j = 12 ∨ j = 13 ∨ j = 14 ∨ j = 15 ∨ j = 16 ∨ j = 17 := by omega
                rcases this with rfl | rfl | rfl | rfl | rfl | rfl | rfl | rfl | rfl | rfl | rfl | rfl | rfl | rfl | rfl | rfl | rfl | rfl
                · exact absurd hd (by decide)
                · exact absurd hd (by decide)
                · exact absurd hd (by decide)
                · exact absurd ((hdep.symm).trans (by kernel_rfl : _ = true)) (by decide)
                all_goals exact hh
              · rw [tbl_outF (n := 19) rfl (by omega)]
                trivial
            · exact ho'
          · subst hi2
            obtain rfl := (Option.some.inj hoo).symm
            refine OblDX.step rfl fun ev W hI hpre hx => ?_
            have hI : Below wq.heap.size wq W := hI
            have o11 := tkK_of (L := E.T.take p ++ [(⟨o, r, v⟩ : Tup)]) (hx (.tmp 97)) (by kernel_rfl)
            have e17 : ev (.tmp 103) = .slice Ar mr cr := holds_valF (hx (.tmp 103)) (by kernel_rfl)
            obtain ⟨v', W', hrun, ho', hg'⟩ := run_appendTp wq.heap.size _ (E.T.take p ++ [(⟨o, r, v⟩ : Tup)]) o11 W.heap.size Ar mr cr (E.T.drop p) (HSRT.out.2 W hI) (HLNT.out.2) hI.size
            refine ⟨v', W', run_op_append (.tmp 97) (.tmp 103) 46 rfl rfl _ _ _ rfl e17 hrun, below_grown hI hI.size hg' (fun k hk => (World.ownsRow.lt o11 k hk).1), ?_, fun j _ _ _ _ => trivial, ?_⟩
            · intro j uu hj hd hdep hh
              by_cases hj9 : j < 19
              · have : j = 1 ∨ j = 8 ∨ j = 10 ∨ j = 11 ∨ j = 0 ∨ j = 2 ∨ j = 3 ∨ j = 4 ∨ j = 5 ∨ j = 6 ∨ j = 7 ∨ j = 9 ∨ j = 12 ∨ j = 13 ∨ j = 14 ∨ j = 15 ∨ j = 16 ∨ j = 17 := by omega
                rcases this with rfl | rfl | rfl | rfl | rfl | rfl | rfl | rfl | rfl | rfl | rfl | rfl | rfl | rfl | rfl | rfl | rfl | rfl
                · obtain ⟨g, e, hg1, hb⟩ := emX_of (ty := 31) hh rfl
                  exact ⟨g, e, hg1, (hg'.block g hb.lt (fun e => own_not_empty o11 (by simp) (by omega) hb e.symm)).trans hb⟩
                · exact absurd hd (by decide)
                · exact absurd hd (by decide)
                · exact absurd hd (by decide)
                all_goals exact hh
              · rw [tbl_outF (n := 19) rfl (by omega)]
                trivial
            · exact ho'
        intro aa W hI hsz hdf hold hv _
        have hI : Below wq.heap.size wq W := hI
        have o18 : OwnTp W wq.heap.size (aa.tmps.getD 104 undef) ((E.T.take p ++ [(⟨o, r, v⟩ : Tup)]) ++ E.T.drop p) := tkK_of (hv 18 (by decide) (by intro k; cases k <;> simp)) (by kernel_rfl)
        have v0 : aa.tmps.getD 86 undef = .pointer (some ⟨G, 0, none⟩) := holds_valF (hv 0 (by decide) (by intro k; simp)) (by kernel_rfl)
        have ha := act_puts [86, 87, 88, 89, 90, 91, 92, 93, 94, 95, 96, 97, 98, 99, 100, 101, 102, 103, 104, 105, 106] (by kernel_rfl) hsz hdf hold
        simp only [putAll, v0] at ha
        generalize aa.tmps.getD 104 undef = y18 at ha o18
        generalize aa.tmps.getD 87 undef = x87 at ha
        generalize aa.tmps.getD 88 undef = x88 at ha
        generalize aa.tmps.getD 89 undef = x89 at ha
        generalize aa.tmps.getD 90 undef = x90 at ha
        generalize aa.tmps.getD 91 undef = x91 at ha
        generalize aa.tmps.getD 92 undef = x92 at ha
        generalize aa.tmps.getD 93 undef = x93 at ha
        generalize aa.tmps.getD 94 undef = x94 at ha
        generalize aa.tmps.getD 95 undef = x95 at ha
        generalize aa.tmps.getD 96 undef = x96 at ha
        generalize aa.tmps.getD 97 undef = x97 at ha
        generalize aa.tmps.getD 98 undef = x98 at ha
        generalize aa.tmps.getD 99 undef = x99 at ha
        generalize aa.tmps.getD 100 undef = x100 at ha
        generalize aa.tmps.getD 101 undef = x101 at ha
        generalize aa.tmps.getD 102 undef = x102 at ha
        generalize aa.tmps.getD 103 undef = x103 at ha
        generalize aa.tmps.getD 105 undef = x105 at ha
        generalize aa.tmps.getD 106 undef = x106 at ha
        clear v0 hv hold hsz hdf
        subst ha
        simp only [List.toList_toArray, List.drop_succ_cons, List.drop_zero, Act.put, List.setIfInBounds_toArray, List.set_cons_succ, List.set_cons_zero]
        have hB := (hI.block G HWT.out.1).trans ((HBQ.out.block G H0.out.1.blk.lt).trans H0.out.1.blk)
        obtain ⟨A4, c4, e4, _⟩ := own_rx (cellsT_len _) o18
        obtain ⟨m4, hm4⟩ : ∃ m, m = ((E.T.take p ++ [(⟨o, r, v⟩ : Tup)]) ++ E.T.drop p).length := ⟨_, rfl⟩
        rw [← hm4] at e4
        subst e4
        have s2 : W.cell? ⟨G, 2, none⟩ = some (.slice A1 n c1) := Blk.cell hB 2
        have f2 := Blk.frozen hB 2
        have HB13 := Lib.hid (⟨hB, o18, hI⟩ : _ ∧ _ ∧ Below wq.heap.size wq W)
        clear hB o18 hI hm4
        go_upto_region 14 with (fail)
        have oG := OnlyS.one (S := fun k => k = G) (Only.set G 2 W (.slice A4 m4 c4)) rfl
        have hbW : Below w0.heap.size w0 W := HBQ.out.trans (HB13.out.2.2.mono HBQ.out.size)
        have h2o : OwnV (W.setCell ⟨G, 2, none⟩ (.slice A4 m4 c4)) 0 (.slice A2 n c2) E.U := own_onlyS (H0.out.1.on hbW).r2 oG (fun k hk (e : k = G) => H0.out.1.n2 (e ▸ hk))
        have hB14 : Blk (W.setCell ⟨G, 2, none⟩ (.slice A4 m4 c4)) G 56 #[.int .i64 (c : Int), .int .i64 (rbI rb), .slice A4 m4 c4, .slice A2 n c2] := by
          have := Blk.set_ HB13.out.1 2 (.slice A4 m4 c4)
          simpa only [List.setIfInBounds_toArray, List.set_cons_succ, List.set_cons_zero] using this
        have rN : RX (W.setCell ⟨G, 2, none⟩ (.slice A4 m4 c4)) (W.setCell ⟨G, 2, none⟩ (.slice A4 m4 c4)).heap.size A2 n c2 1 (E.U.map lv) := by
          obtain ⟨A', c', e, r', _⟩ := h2o.rx
          rw [E.U_len, ← HI.out.2.2.2] at e r'
          injection e with e1 _ e3
          subst e1 e3
          exact r'
        have HFI := Lib.hid (fun W' (v5 : Value) (hb : Below (W.setCell ⟨G, 2, none⟩ (.slice A4 m4 c4)).heap.size (W.setCell ⟨G, 2, none⟩ (.slice A4 m4 c4)) W') (ho : OwnV W' (W.setCell ⟨G, 2, none⟩ (.slice A4 m4 c4)).heap.size v5 ((E.U.take p ++ [un]) ++ E.U.drop p)) => fin_ins (E' := E.take p ++ ⟨⟨o, r, v⟩, untilE now⟩ :: E.drop p) H0.out.1 (by have := HA.out.1; rw [HGT.out] at this; exact this) hbW HB13.out.2.1 HBQ.out.size hb ho (Nat.le_trans hbW.size oG.size) (T_ins E p ⟨⟨o, r, v⟩, untilE now⟩).symm (by rw [HUN.out]; exact (U_ins E p ⟨⟨o, r, v⟩, untilE now⟩).symm))
        clear h2o oG s2 f2 hbW
        generalize W.setCell ⟨G, 2, none⟩ (.slice A4 m4 c4) = w4 at hB14 rN HFI ⊢
        have HWV := Lib.hid (⟨hB14.lt, hB14.cell 3, trivial⟩ : G < w4.heap.size ∧ w4.cell? ⟨G, 3, none⟩ = some (.slice A2 n c2) ∧ True)
        have HBB := Lib.hid hB14
        have hnc := rN.2.1
        obtain ⟨Ar, cr, hcut, rR⟩ := rN.restV hpn
        have rT := rN.takeV hpn
        rw [← hmr] at hcut rR
        have HSRV := Lib.hid (⟨fun W (hI : Below w4.heap.size w4 W) => rT.on hI, fun W (hI : Below w4.heap.size w4 W) => rR.on hI⟩ : (∀ W, Below w4.heap.size w4 W → RX W W.heap.size A2 p c2 1 ((E.U.take p).map lv)) ∧ ∀ W, Below w4.heap.size w4 W → RX W W.heap.size Ar mr cr 1 ((E.U.drop p).map lv))
        have HCUV := Lib.hid (⟨fun W => cut_toV A2 n c2 p (by omega) W, hcut⟩ : (∀ W, _) ∧ ∀ W, _)
        have HLNV := Lib.hid (⟨by rw [List.length_take, E.U_len]; omega, by rw [List.length_append, List.length_take, E.U_len]; simp; omega⟩ : (E.U.take p).length + 1 ≤ 4398046511104 ∧ (E.U.take p ++ [un]).length + mr ≤ 4398046511104)
        clear hB14 rN rT rR hcut hnc
        refine wp_region_d (F := tkF w4) (fun _ _ => True) (fun k j => (k == 8 && j == 1) || (k == 11 && (j == 1 || j == 8 || j == 10)) || (k == 18 && (j == 8 || j == 10 || j == 11))) (fun i => i == 8 || i == 11 || i == 18) (fun _ _ => True) 19
          [.val (.pointer (some ⟨G, 0, none⟩)), emX w4 2, .val (.pointer (some ⟨G, 0, none⟩)), .val (.pointer (some ⟨G, 0, none⟩)), .val (.pointer (some ⟨G, 3, none⟩)), .val (.slice A2 n c2), .val (.int .i64 (p : Int)), .val (.slice A2 p c2), tkU w4 (E.U.take p), .val (.int .i64 un), tkV w4 un, tkU w4 (E.U.take p ++ [un]), .val (.pointer (some ⟨G, 0, none⟩)), .val (.pointer (some ⟨G, 0, none⟩)), .val (.pointer (some ⟨G, 3, none⟩)), .val (.slice A2 n c2), .val (.int .i64 (p : Int)), .val (.slice Ar mr cr), tkU w4 ((E.U.take p ++ [un]) ++ E.U.drop p)]
          (fun _ _ _ _ => trivial) (by kernel_rfl) (by kernel_rfl) (by kernel_rfl) (by decide) (by kernel_rfl) (belowDrewN w4 1) (fun i hi => trivial) (fun i a b _ _ _ _ _ => trivial) (AllOblD.upto ⟨?_, ?_, ?_, ?_, ?_, ?_, ?_, ?_, ?_, ?_, ?_, ?_, ?_, ?_, ?_, ?_, ?_, ?_, ?_, trivial⟩) ?_ ?_
        · intro _
          exact OblD.move rfl _ (Or.inl rfl) (by kernel_rfl) rfl
        · intro _
          refine OblD.step rfl fun ev W hI hx => ?_
          have hI : Below w4.heap.size w4 W := hI
          refine ⟨.slice (some ⟨W.heap.size, 0, none⟩) 0 0, W.alloc (.cells #[] 2), ?_, hI.trans ((belowA W _).mono hI.size), belowA W _, ⟨W.heap.size, rfl, hI.size, Blk.new _ _ _⟩⟩
          simp [execOp, go_sem]
        · intro _
          exact OblD.move rfl _ (Or.inl rfl) (by kernel_rfl) rfl
        · intro _
          refine OblD.pure rfl (.pointer (some ⟨G, 0, none⟩)) (by kernel_rfl) rfl fun ev W hI hx => ?_
          have e109 : ev (.tmp 109) = .pointer (some ⟨G, 0, none⟩) := holds_valF (hx (.tmp 109)) (by kernel_rfl)
          simp [execOp, e109, go_sem]
        · intro _
          refine OblD.pure rfl (.pointer (some ⟨G, 3, none⟩)) (by kernel_rfl) rfl fun ev W hI hx => ?_
          have e110 : ev (.tmp 110) = .pointer (some ⟨G, 0, none⟩) := holds_valF (hx (.tmp 110)) (by kernel_rfl)
          simp [execOp, e110, go_sem]
        · intro _
          refine OblD.pure rfl (.slice A2 n c2) (by kernel_rfl) rfl fun ev W hI hx => ?_
          have e111 : ev (.tmp 111) = .pointer (some ⟨G, 3, none⟩) := holds_valF (hx (.tmp 111)) (by kernel_rfl)
          have hI : Below w4.heap.size w4 W := hI
          have d0 : W.cell? ⟨G, 3, none⟩ = _ := (hI.cell (p := ⟨G, 3, none⟩) HWV.out.1).trans HWV.out.2.1
          simp [execOp, e111, go_sem, d0]
        · intro _
          exact OblD.move rfl _ (Or.inl rfl) (by kernel_rfl) rfl
        · intro _
          refine OblD.pure rfl (.slice A2 p c2) (by kernel_rfl) rfl fun ev W hI hx => ?_
          have e1 : ev (.tmp 112) = .slice A2 n c2 := holds_valF (hx (.tmp 112)) (by kernel_rfl)
          have e2 : ev (.tmp 113) = .int .i64 (p : Int) := holds_valF (hx (.tmp 113)) (by kernel_rfl)
          have h1 := HCUV.out.1 W
          have h2 : (Instr.sliceAt 54 (.slice A2 n c2) none (some (.int .i64 (p : Int))) none).run Try.prog W = .ok (.slice A2 p c2) W := (run_sliceAt_slice W 54 _ _ _ _ (by kernel_rfl)).trans h1
          simp [execOp, e1, e2, go_sem, h1, h2]
        · exact fun hh => absurd hh (by decide)
        · intro _
          exact OblD.move rfl _ (Or.inl rfl) (by kernel_rfl) rfl
        · intro _
          refine OblD.step rfl fun ev W hI hx => ?_
          have e1 : ev (.tmp 116) = .int .i64 un := holds_valF (hx (.tmp 116)) (by kernel_rfl)
          have hI : Below w4.heap.size w4 W := hI
          refine ⟨.slice (some ⟨W.heap.size, 0, none⟩) 1 1, W.alloc (.cells #[.int .i64 un] 2), ?_, hI.trans ((belowA W _).mono hI.size), belowA W _, ⟨W.heap.size, rfl, Blk.new _ _ _⟩⟩
          simp [execOp, e1, go_sem]
        · exact fun hh => absurd hh (by decide)
        · intro _
          exact OblD.move rfl _ (Or.inl rfl) (by kernel_rfl) rfl
        · intro _
          refine OblD.pure rfl (.pointer (some ⟨G, 0, none⟩)) (by kernel_rfl) rfl fun ev W hI hx => ?_
          have e119 : ev (.tmp 119) = .pointer (some ⟨G, 0, none⟩) := holds_valF (hx (.tmp 119)) (by kernel_rfl)
          simp [execOp, e119, go_sem]
        · intro _
          refine OblD.pure rfl (.pointer (some ⟨G, 3, none⟩)) (by kernel_rfl) rfl fun ev W hI hx => ?_
          have e120 : ev (.tmp 120) = .pointer (some ⟨G, 0, none⟩) := holds_valF (hx (.tmp 120)) (by kernel_rfl)
          simp [execOp, e120, go_sem]
        · intro _
          refine OblD.pure rfl (.slice A2 n c2) (by kernel_rfl) rfl fun ev W hI hx => ?_
          have e121 : ev (.tmp 121) = .pointer (some ⟨G, 3, none⟩) := holds_valF (hx (.tmp 121)) (by kernel_rfl)
          have hI : Below w4.heap.size w4 W := hI
          have d0 : W.cell? ⟨G, 3, none⟩ = _ := (hI.cell (p := ⟨G, 3, none⟩) HWV.out.1).trans HWV.out.2.1
          simp [execOp, e121, go_sem, d0]
        · intro _
          exact OblD.move rfl _ (Or.inl rfl) (by kernel_rfl) rfl
        · intro _
          refine OblD.pure rfl (.slice Ar mr cr) (by kernel_rfl) rfl fun ev W hI hx => ?_
          have e1 : ev (.tmp 122) = .slice A2 n c2 := holds_valF (hx (.tmp 122)) (by kernel_rfl)
          have e2 : ev (.tmp 123) = .int .i64 (p : Int) := holds_valF (hx (.tmp 123)) (by kernel_rfl)
          have h1 := HCUV.out.2 W
          have h2 : (Instr.sliceAt 54 (.slice A2 n c2) (some (.int .i64 (p : Int))) none none).run Try.prog W = .ok (.slice Ar mr cr) W := (run_sliceAt_slice W 54 _ _ _ _ (by kernel_rfl)).trans h1
          simp [execOp, e1, e2, go_sem, h1, h2]
        · exact fun hh => absurd hh (by decide)
        · intro i oo him hsp hoo
          have hi2 : i = 8 ∨ i = 11 ∨ i = 18 := by
            have : (i = 8 ∨ i = 11) ∨ i = 18 := by simpa using hsp
            omega
          rcases hi2 with hi2 | hi2 | hi2
          · subst hi2
            obtain rfl := (Option.some.inj hoo).symm
            refine OblDX.step rfl fun ev W hI hpre hx => ?_
            have hI : Below w4.heap.size w4 W := hI
            obtain ⟨g1, e0, hg1, bE⟩ := emX_of (ty := 2) (hx (.tmp 108)) (by kernel_rfl)
            have e7 : ev (.tmp 114) = .slice A2 p c2 := holds_valF (hx (.tmp 114)) (by kernel_rfl)
            have how : OwnV W w4.heap.size (.slice (some ⟨g1, 0, none⟩) 0 0) [] := ownE 1 hg1 bE
            obtain ⟨v', W', hrun, ho', hg', _⟩ := run_appendV w4.heap.size _ [] how W.heap.size A2 p c2 (E.U.take p) (HSRV.out.1 W hI) (by simp; omega) hI.size
            refine ⟨v', W', run_op_append (.tmp 108) (.tmp 114) 54 rfl rfl _ _ _ e0 e7 hrun, below_grown hI hI.size hg' (fun k hk => by have hk : g1 = k := Option.some.inj hk; omega), ?_, fun j _ _ _ _ => trivial, ?_⟩
            · intro j uu hj hd hdep hh
              by_cases hj9 : j < 19
              · have : j = 10 ∨ j = 18 ∨ j = 1 ∨ j = 11 ∨ j = 0 ∨ j = 2 ∨ j = 3 ∨ j = 4 ∨ j = 5 ∨ j = 6 ∨ j = 7 ∨ j = 9 ∨ j = 12 ∨ j = 13 ∨ j = 14 ∨ j = 15 ∨ j = 16 ∨ j = 17 := by omega
                rcases this with rfl | rfl | rfl | rfl | rfl | rfl | rfl | rfl | rfl | rfl | rfl | rfl | rfl | rfl | rfl | rfl | rfl | rfl
                · obtain ⟨g, e, hb⟩ := tkV_of (u := un) hh rfl
                  exact ⟨g, e, (hg'.block g hb.lt (fun e => by
                    have e : g = g1 := by injection e
                    have h1 := hb.cell 0
                    rw [e, bE.cell 0] at h1
                    simp at h1)).trans hb⟩
                · have hh : OwnV W w4.heap.size uu ((E.U.take p ++ [un]) ++ E.U.drop p) := hh
                  have hz : OwnV W' w4.heap.size uu ((E.U.take p ++ [un]) ++ E.U.drop p) := own_grown hh hg' (fun k h1 h2 => own_not_empty hh (by simp; omega) (by omega) bE (h1.trans h2.symm))
                  exact hz
                · exact absurd hd (by decide)
                · exact absurd ((hdep.symm).trans (by kernel_rfl : _ = true)) (by decide)
                all_goals exact hh
              · rw [tbl_outF (n := 19) rfl (by omega)]
                trivial
            · exact ho'
          · subst hi2
            obtain rfl := (Option.some.inj hoo).symm
            refine OblDX.step rfl fun ev W hI hpre hx => ?_
            have hI : Below w4.heap.size w4 W := hI
            have o8 := tkU_of (L := E.U.take p) (hx (.tmp 115)) (by kernel_rfl)
            obtain ⟨g, e10, hb⟩ := tkV_of (u := un) (hx (.tmp 117)) (by kernel_rfl)
            obtain ⟨v', W', hrun, ho', hg', _⟩ := run_appendV w4.heap.size _ (E.U.take p) o8 W.heap.size (some ⟨g, 0, none⟩) 1 1 [un] (one_rx_b hb) (HLNV.out.1) hI.size
            refine ⟨v', W', run_op_append (.tmp 115) (.tmp 117) 54 rfl rfl _ _ _ rfl e10 hrun, below_grown hI hI.size hg' (fun k hk => (World.ownsRow.lt o8 k hk).1), ?_, fun j _ _ _ _ => trivial, ?_⟩
            · intro j uu hj hd hdep hh
              by_cases hj9 : j < 19
              · have : j = 1 ∨ j = 8 ∨ j = 10 ∨ j = 18 ∨ j = 0 ∨ j = 2 ∨ j = 3 ∨ j = 4 ∨ j = 5 ∨ j = 6 ∨ j = 7 ∨ j = 9 ∨ j = 12 ∨ j = 13 ∨ j = 14 ∨ j = 15 ∨ j = 16 ∨ j = 17 := by omega
                rcases this with rfl | rfl | rfl | rfl | rfl | rfl | rfl | rfl | rfl | rfl | rfl | rfl | rfl | rfl | rfl | rfl | rfl | rfl
                · exact absurd hd (by decide)
                · exact absurd hd (by decide)
                · exact absurd hd (by decide)
                · exact absurd ((hdep.symm).trans (by kernel_rfl : _ = true)) (by decide)
                all_goals exact hh
              · rw [tbl_outF (n := 19) rfl (by omega)]
                trivial
            · exact ho'
          · subst hi2
            obtain rfl := (Option.some.inj hoo).symm
            refine OblDX.step rfl fun ev W hI hpre hx => ?_
            have hI : Below w4.heap.size w4 W := hI
            have o11 := tkU_of (L := E.U.take p ++ [un]) (hx (.tmp 118)) (by kernel_rfl)
            have e17 : ev (.tmp 124) = .slice Ar mr cr := holds_valF (hx (.tmp 124)) (by kernel_rfl)
            obtain ⟨v', W', hrun, ho', hg', _⟩ := run_appendV w4.heap.size _ (E.U.take p ++ [un]) o11 W.heap.size Ar mr cr (E.U.drop p) (HSRV.out.2 W hI) (HLNV.out.2) hI.size
            refine ⟨v', W', run_op_append (.tmp 118) (.tmp 124) 54 rfl rfl _ _ _ rfl e17 hrun, below_grown hI hI.size hg' (fun k hk => (World.ownsRow.lt o11 k hk).1), ?_, fun j _ _ _ _ => trivial, ?_⟩
            · intro j uu hj hd hdep hh
              by_cases hj9 : j < 19
              · have : j = 1 ∨ j = 8 ∨ j = 10 ∨ j = 11 ∨ j = 0 ∨ j = 2 ∨ j = 3 ∨ j = 4 ∨ j = 5 ∨ j = 6 ∨ j = 7 ∨ j = 9 ∨ j = 12 ∨ j = 13 ∨ j = 14 ∨ j = 15 ∨ j = 16 ∨ j = 17 := by omega
                rcases this with rfl | rfl | rfl | rfl | rfl | rfl | rfl | rfl | rfl | rfl | rfl | rfl | rfl | rfl | rfl | rfl | rfl | rfl
                · obtain ⟨g, e, hg1, hb⟩ := emX_of (ty := 2) hh rfl
                  exact ⟨g, e, hg1, (hg'.block g hb.lt (fun e => own_not_empty o11 (by simp) (by omega) hb e.symm)).trans hb⟩
                · exact absurd hd (by decide)
                · exact absurd hd (by decide)
                · exact absurd hd (by decide)
                all_goals exact hh
              · rw [tbl_outF (n := 19) rfl (by omega)]
                trivial
            · exact ho'
        intro aa W hI hsz hdf hold hv _
        have hI : Below w4.heap.size w4 W := hI
        have o18 : OwnV W w4.heap.size (aa.tmps.getD 125 undef) ((E.U.take p ++ [un]) ++ E.U.drop p) := tkU_of (hv 18 (by decide) (by intro k; cases k <;> simp)) (by kernel_rfl)
        have v0 : aa.tmps.getD 107 undef = .pointer (some ⟨G, 0, none⟩) := holds_valF (hv 0 (by decide) (by intro k; simp)) (by kernel_rfl)
        have ha := act_puts [107, 108, 109, 110, 111, 112, 113, 114, 115, 116, 117, 118, 119, 120, 121, 122, 123, 124, 125, 126, 127] (by kernel_rfl) hsz hdf hold
        simp only [putAll, v0] at ha
        generalize aa.tmps.getD 125 undef = y18 at ha o18
        generalize aa.tmps.getD 108 undef = x108 at ha
        generalize aa.tmps.getD 109 undef = x109 at ha
        generalize aa.tmps.getD 110 undef = x110 at ha
        generalize aa.tmps.getD 111 undef = x111 at ha
        generalize aa.tmps.getD 112 undef = x112 at ha
        generalize aa.tmps.getD 113 undef = x113 at ha
        generalize aa.tmps.getD 114 undef = x114 at ha
        generalize aa.tmps.getD 115 undef = x115 at ha
        generalize aa.tmps.getD 116 undef = x116 at ha
        generalize aa.tmps.getD 117 undef = x117 at ha
        generalize aa.tmps.getD 118 undef = x118 at ha
        generalize aa.tmps.getD 119 undef = x119 at ha
        generalize aa.tmps.getD 120 undef = x120 at ha
        generalize aa.tmps.getD 121 undef = x121 at ha
        generalize aa.tmps.getD 122 undef = x122 at ha
        generalize aa.tmps.getD 123 undef = x123 at ha
        generalize aa.tmps.getD 124 undef = x124 at ha
        generalize aa.tmps.getD 126 undef = x126 at ha
        generalize aa.tmps.getD 127 undef = x127 at ha
        clear v0 hv hold hsz hdf
        subst ha
        simp only [List.toList_toArray, List.drop_succ_cons, List.drop_zero, Act.put, List.setIfInBounds_toArray, List.set_cons_succ, List.set_cons_zero]
        have hB := (hI.block G HWV.out.1).trans HBB.out
        obtain ⟨A5, c5, e5, _⟩ := o18.rx
        obtain ⟨m5, hm5⟩ : ∃ m, m = ((E.U.take p ++ [un]) ++ E.U.drop p).length := ⟨_, rfl⟩
        rw [← hm5] at e5
        subst e5
        have s3 : W.cell? ⟨G, 3, none⟩ = some (.slice A2 n c2) := Blk.cell hB 3
        have f3 := Blk.frozen hB 3
        have HEND := Lib.hid (HFI.out W (.slice A5 m5 c5) hI o18)
        clear hB o18 hI hm5 hmr
        go_wp2_with fail
        go_ret
        rw [HPUT.out.1, HPUT.out.2]
        exact HEND.out
      · have s6 : decide ((6 : Int) ≤ (n : Int)) = true := by simp; omega
        have s6n : decide (6 ≤ n) = true := by simp; omega
        have HPUT := Lib.hid (⟨putE_full HNO.out (by rw [← HI.out.2.2.2]; exact h6), by unfold okE; rw [HNO.out, ← HI.out.2.2.2]; simp [h6]⟩ : putE E ⟨⟨o, r, v⟩, untilE now⟩ = E ∧ okE E o = false)
        have hmr := HPUT
        clear k3 t0 t1 t2 hmr
        go_wp2_with fail
        go_ret
        rw [HPUT.out.1, HPUT.out.2]
        exact ⟨rfl, _, _, H0.out.1.on HBQ.out, fun k hk => .inl hk, (OnlyS.of (S := RlS G (.slice A1 n c1) (.slice A2 n c2)) (by have := HA.out.1; rw [HGT.out] at this; exact this)).trans (OnlyS.of (S := RlS G (.slice A1 n c1) (.slice A2 n c2)) HBQ.out) (fun i hi _ => hi)⟩
end Go.Proofs.Ytfijlgkgbbemnaa
