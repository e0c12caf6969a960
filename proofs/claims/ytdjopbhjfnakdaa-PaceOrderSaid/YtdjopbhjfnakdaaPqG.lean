/- Contract: the project's queue: Go. -/
import Derived.Test.YtdjopbhjfnakdaaPqU
namespace Go.Proofs.Ytdjopbhjfnakdaa
open Go.RowKit
set_option linter.unusedVariables false
set_option linter.unusedSimpArgs false
set_option maxRecDepth 20000

/-- What Go leaves. -/
def PqGo (G gb r u l : Nat) (Q : Row8) (cut : Nat) (S : Nat → Prop) (w : World) (e : Ending) (w' : World) : Prop :=
  ∃ Ao no co S' F, e = .returned (.slice Ao no co) ∧ RB w' Ao no co (goO l Q) F ∧ (∀ k, F k → S k ∨ w.heap.size ≤ k) ∧ PqAt w' G gb r u (goL l Q) (goR l Q) cut S' ∧ (∀ k, S' k → S k ∨ w.heap.size ≤ k) ∧ OnlyS S w w' ∧ (∀ k, F k → ¬ S' k)
section
variable {w : World} {G gb r u l : Nat} {Q : Row8} {cut : Nat} {S : Nat → Prop}
theorem bks_cut (ds : List Sl) (q : Nat) : bks ds = bks (ds.take q) ++ bks (ds.drop q) := by rw [← bks_app, List.take_append_drop]
theorem RowAt.left {w w' : World} {v v' : Value} {ds : List Sl} {Q : Row8} {q : Nat} (h : RowAt w v ds Q) (hd : OwnB w' 0 v' (ds.drop q)) (hv : v'.ownBlock = v.ownBlock) (hD : OnlyS (fun k => some k = v.ownBlock) w w') : RowAt w' v' (ds.drop q) (Q.drop q) := by
  have hb := bks_cut ds q
  refine ⟨hd, by rw [List.length_drop, List.length_drop, h.len], fun i d x hdi hx => ?_, ?_, fun k hk hm => ?_⟩
  · rw [List.getElem?_drop] at hdi hx
    exact r8_onlyS (h.rd _ d x hdi hx) hD fun ad hA hn (e : some ad.block = _) => h.far _ e.symm (mem_bks (List.mem_of_getElem? hdi) hA hn)
  · have := h.dist
    rw [hb] at this
    exact (List.nodup_append.1 this).2.1
  · rw [hv] at hk
    exact h.far k hk (by rw [hb]; exact List.mem_append_right _ hm)
theorem go_end {W2 W3 : World} {vo v0 v' : Value} {ds : List Sl} {q lv : Nat} (hq : q ≤ Q.length) (ho : OwnB W2 w.heap.size vo (ds.take q)) (h : PqSt W2 G gb r u lv Q cut v0 ds) (e1 : goO l Q = Q.take q) (e2 : goR l Q = Q.drop q) (e3 : goL l Q = lv)
    (hO : OnlyS (fun k => k = gb) w W2) (hS1 : ∀ k, PqS G gb v0 ds k → S k) (hS2 : ∀ k, S k → k < w.heap.size) (hd : OwnB W3 0 v' (ds.drop q)) (hv : v'.ownBlock = v0.ownBlock) (hD : OnlyS (fun k => some k = v0.ownBlock) W2 W3) :
    PqGo G gb r u l Q cut S w (.returned vo) (W3.setCell ⟨G, 1, none⟩ v') := by
  have hb := bks_cut ds q
  have hlt : ∀ k, PqS G gb v0 ds k → k < w.heap.size := fun k hk => hS2 k (hS1 k hk)
  have hvo : ∀ k, vo.ownBlock = some k → w.heap.size ≤ k := fun k hk => (ho.lt hk).1
  have hoG := OnlyS.one (S := fun k => k = G) (Only.set G 1 W3 v') rfl
  have hGT : ¬ some G = v0.ownBlock := fun e => h.neG.1 e.symm
  have hBW : Blk W3 G 55 #[.pointer (some ⟨gb, 0, none⟩), v0, .int .i64 (cut : Int)] := (hD.block G h.blk.lt hGT).trans h.blk
  have hrow := h.row.left hd hv hD
  have hmd : ∀ k, k ∈ bks (ds.drop q) → k ∈ bks ds := fun k hk => by rw [hb]; exact List.mem_append_right _ hk
  have hmt : ∀ k, k ∈ bks (ds.take q) → k ∈ bks ds := fun k hk => by rw [hb]; exact List.mem_append_left _ hk
  have hP : PqSt (W3.setCell ⟨G, 1, none⟩ v') G gb r u lv (Q.drop q) cut v' (ds.drop q) := by
    refine ⟨?_, (h.bkt.onlyS hD (fun e => h.neb.1 e.symm)).onlyS hoG (fun e : gb = G => h.ne e.symm), hrow.keep hoG (fun k hk (e : k = G) => h.neG.1 (by rw [← hv]; exact e ▸ hk)) (fun k hk (e : k = G) => h.neG.2 (hmd G (e ▸ hk))), h.ne, ⟨by rw [hv]; exact h.neG.1, fun hm => h.neG.2 (hmd _ hm)⟩, ⟨by rw [hv]; exact h.neb.1, fun hm => h.neb.2 (hmd _ hm)⟩⟩
    have := hBW.set_ 1 v'
    simpa only [List.setIfInBounds_toArray, List.set_cons_succ, List.set_cons_zero] using this
  have hSS : ∀ k, PqS G gb v' (ds.drop q) k → PqS G gb v0 ds k := fun k hk => by
    rcases hk with hk | hk | hk | hk
    · exact .inl hk
    · exact .inr (.inl hk)
    · exact .inr (.inr (.inl (hv ▸ hk)))
    · exact .inr (.inr (.inr (hmd k hk)))
  have hOf : OnlyS (fun k => k = G ∨ some k = v0.ownBlock) W2 (W3.setCell ⟨G, 1, none⟩ v') := (hD.more (T := fun k => k = G ∨ some k = v0.ownBlock) fun k hk => .inr hk).trans hoG (fun i (hi : i = G) _ => .inl hi)
  have hvoT : ∀ k, vo.ownBlock = some k → ¬ (k = G ∨ some k = v0.ownBlock) := fun k hk e => by
    have h1 := hvo k hk
    rcases e with e | e
    · have := hlt k (.inl e)
      omega
    · have := hlt k (.inr (.inr (.inl e.symm)))
      omega
  have ow := ho.onlyS hOf hvoT
  have hql : (ds.take q).length = q := by rw [List.length_take, h.row.len]; omega
  obtain ⟨Ao, co, rfl, hlc, hrx, _⟩ := ow.val
  refine ⟨Ao, _, co, _, fun k => (Value.slice Ao (ds.take q).length co).ownBlock = some k ∨ k ∈ bks (ds.take q), rfl, ⟨by rw [e1, List.length_take, hql]; omega, hlc, fun k hk => ?_, fun hn => ?_⟩, fun k hk => ?_, by rw [e2, e3]; exact hP.at, fun k hk => .inl (hS1 k (hSS k hk)), (hO.more (T := S) fun k (hk : k = gb) => hS1 k (.inr (.inl hk))).trans hOf (fun i hi _ => ?_), fun k hk hk2 => ?_⟩
  · rcases hk with hk | hk
    · exact (ow.lt hk).2
    · have h1 := hlt k (.inr (.inr (.inr (hmt k hk))))
      have h2 := hO.size
      have h3 := hOf.size
      omega
  · rw [hql] at hn
    obtain ⟨b, off, hA, _, _⟩ := ow.at (q := 0) (by rw [hql]; omega)
    refine ⟨b, off, hA, .inl (by rw [hA]; rfl), fun i hi => ?_⟩
    obtain ⟨b', off', hA', _, hc⟩ := ow.at (q := i) hi
    rw [hA] at hA'
    injection hA' with hA'
    injection hA' with hb' ho'
    subst hb' ho'
    have hi2 : i < ds.length := by rw [hql] at hi; rw [h.row.len]; omega
    have hi3 : i < Q.length := by rw [← h.row.len]; exact hi2
    have hdi : ds[i]? = some ds[i] := by simp [hi2]
    have hr := h.row.rd i ds[i] Q[i] hdi (by simp [hi3])
    refine ⟨ds[i].1, ds[i].2.1, ds[i].2.2, ?_, ?_, fun ad h1 h2 => .inr ?_⟩
    · rw [hc, List.getElem_take]
      rfl
    · have hP' : (goO l Q).getD i [] = Q[i] := by
        rw [hql] at hi
        rw [e1]
        simp [List.getD, hi, hi3]
      rw [hP']
      exact r8_onlyS hr hOf fun ad hA hn0 e => by
        have hm := mem_bks (List.mem_of_getElem? hdi) hA hn0
        rcases e with e | e
        · exact h.neG.2 (e ▸ hm)
        · exact h.row.far _ e.symm hm
    · refine mem_bks (List.mem_of_getElem? (i := i) ?_) h1 h2
      rw [List.getElem?_take, if_pos (by rw [hql] at hi; exact hi), hdi]
  · rcases hk with hk | hk
    · exact .inr (hvo k hk)
    · exact .inl (hS1 k (.inr (.inr (.inr (hmt k hk)))))
  · rcases hi with hi | hi
    · exact hS1 i (.inl hi)
    · exact hS1 i (.inr (.inr (.inl hi.symm)))
  · have hk3 := hSS k hk2
    rcases hk with hk | hk
    · have := hlt k hk3
      have := hvo k hk
      omega
    · have hkd := hmt k hk
      rcases hk2 with hk2 | hk2 | hk2 | hk2
      · exact h.neG.2 (hk2 ▸ hkd)
      · exact h.neb.2 (hk2 ▸ hkd)
      · exact h.row.far k (hv ▸ hk2) hkd
      · have := h.row.dist
        rw [hb] at this
        exact (List.nodup_append.1 this).2.2 k hk k hk2 rfl
/-- Behind q rounds. -/
def GoAt2 (w : World) (G gb r u l : Nat) (Q : Row8) (cut : Nat) (v0 : Value) (ds : List Sl) (q : Nat) (v : Value) (wr : World) : Prop :=
  ∃ lv, OwnB wr w.heap.size v (ds.take q) ∧ PqSt wr G gb r u lv Q cut v0 ds ∧ goO l Q = Q.take q ++ goO lv (Q.drop q) ∧ goR l Q = goR lv (Q.drop q) ∧ goL l Q = goL lv (Q.drop q) ∧ lv ≤ l ∧ OnlyS (fun k => k = gb) w wr
theorem cost_same {n : Nat} (hn : n ≤ 100000) (A : Option Addr) (c : Nat) (w : World) : Calls Try.prog 26 #[.slice A n c] w (fun e w' => e = .returned (.int .i64 ((n + 28 : Nat) : Int)) ∧ w' = w) := by
  have y1 : IntKind.i64.wrap ((n : Int) + 28) = ((n + 28 : Nat) : Int) := by rw [IntKind.wrap_i64]; omega
  obtain ⟨m, hm⟩ : ∃ m, m = n + 28 := ⟨_, rfl⟩
  rw [← hm] at y1 ⊢
  clear hm
  go_enter Try.func26, Try.ntmps26
  go_wp2_with fail
  go_ret
  exact ⟨rfl, rfl⟩
theorem stop_end {lv q : Nat} (hq : Q.length ≤ q) (e1 : goO l Q = Q.take q ++ goO lv (Q.drop q)) (e2 : goR l Q = goR lv (Q.drop q)) (e3 : goL l Q = goL lv (Q.drop q)) : goO l Q = Q.take q ∧ goR l Q = Q.drop q ∧ goL l Q = lv := by
  have hd : Q.drop q = [] := List.drop_eq_nil_of_le hq
  rw [hd] at e1 e2 e3 ⊢
  refine ⟨by rw [e1]; exact List.append_nil _, e2, e3⟩
theorem stop_no {lv q : Nat} (hq : q < Q.length) (hc : ¬ costN Q[q] * 1000000 ≤ lv) (e1 : goO l Q = Q.take q ++ goO lv (Q.drop q)) (e2 : goR l Q = goR lv (Q.drop q)) (e3 : goL l Q = goL lv (Q.drop q)) : goO l Q = Q.take q ∧ goR l Q = Q.drop q ∧ goL l Q = lv := by
  have hd : Q.drop q = Q[q] :: Q.drop (q + 1) := List.drop_eq_getElem_cons hq
  obtain ⟨h1, h2, h3⟩ := go_no (Q := Q.drop (q + 1)) hc
  rw [hd] at e1 e2 e3 ⊢
  rw [h1] at e1
  exact ⟨by rw [e1]; exact List.append_nil _, e2.trans h2, e3.trans h3⟩
theorem go_on {lv q : Nat} (hq : q < Q.length) (hc : costN Q[q] * 1000000 ≤ lv) (e1 : goO l Q = Q.take q ++ goO lv (Q.drop q)) (e2 : goR l Q = goR lv (Q.drop q)) (e3 : goL l Q = goL lv (Q.drop q)) :
    goO l Q = Q.take (q + 1) ++ goO (lv - costN Q[q] * 1000000) (Q.drop (q + 1)) ∧ goR l Q = goR (lv - costN Q[q] * 1000000) (Q.drop (q + 1)) ∧ goL l Q = goL (lv - costN Q[q] * 1000000) (Q.drop (q + 1)) := by
  have hd : Q.drop q = Q[q] :: Q.drop (q + 1) := List.drop_eq_getElem_cons hq
  obtain ⟨h1, h2, h3⟩ := go_yes (Q := Q.drop (q + 1)) hc
  rw [hd] at e1 e2 e3
  rw [h1] at e1
  refine ⟨?_, e2.trans h2, e3.trans h3⟩
  rw [e1, List.take_succ_eq_append_getElem hq, List.append_assoc]
  rfl
theorem take_at {lv N : Nat} {x : List UInt8} (h : N = x.length + 28) (hc : costN x * 1000000 ≤ lv) : takeB lv (N : Int) = true ∧ takeL lv (N : Int) = lv - costN x * 1000000 := by
  have e : (N : Int) = (x.length : Int) + 28 := by omega
  rw [e]
  exact ⟨(take_cost x).trans (decide_eq_true hc), take_costL x hc⟩
theorem take_at_no {lv N : Nat} {x : List UInt8} (h : N = x.length + 28) (hc : ¬ costN x * 1000000 ≤ lv) : takeB lv (N : Int) = false ∧ takeL lv (N : Int) = lv := by
  have e : (N : Int) = (x.length : Int) + 28 := by omega
  rw [e]
  exact ⟨(take_cost x).trans (decide_eq_false hc), take_costN x hc⟩
set_option maxHeartbeats 4000000 in
theorem pq_go (h : PqAt w G gb r u l Q cut S) (ok : BkOk r u l) (hQ : QuOk u Q) (hfit : ∀ b ∈ Q, b.length ≤ 100000) : Calls Try.prog 11 #[.pointer (some ⟨G, 0, none⟩)] w (PqGo G gb r u l Q cut S w) := by
  obtain ⟨v0, ds, hs, hS1, hS2⟩ := h
  obtain ⟨Av, cv, hv, hnc, _⟩ := hs.row.own.val
  subst hv
  have hl := hs.row.len
  have h0 : Hid (GoAt2 w G gb r u l Q cut (.slice Av ds.length cv) ds 0 (.slice none 0 0) w) := Lib.hid ⟨l, OwnB.nil _ _, hs, by simp, by simp, by simp, Nat.le_refl _, OnlyS.of (Below.refl _ _)⟩
  have OK := Lib.hid ok
  obtain ⟨n, hn⟩ : ∃ n, n = ds.length := ⟨_, rfl⟩
  rw [← hn] at h0 hnc hs hS1
  have HQ := Lib.hid (⟨hQ.1, hfit, hS1, hS2, hl, hn⟩ : _ ∧ _ ∧ _ ∧ _ ∧ _ ∧ _)
  obtain ⟨⟨k0, k1, k2⟩, f1, f2⟩ := hs.cells
  have hn16 : n ≤ 16 := by have := hQ.1; omega
  clear ok hQ hfit hS1 hS2 hl hn hs k0 k2 f1 f2
  go_enter Try.func11, Try.ntmps11
  go_wp2_with fail
  clear k1
  go_loopw [3, 11] (fun v i wr => ∃ q : Nat, q ≤ n ∧ i = .int .i64 (q : Int) ∧ Hid (GoAt2 w G gb r u l Q cut (.slice Av n cv) ds q v wr)) (fun _ i _ => n - (intOf i).toNat)
  case atStart => exact ⟨0, by omega, rfl, h0⟩
  case round =>
    obtain ⟨q, hq, rfl, hrel⟩ := hrel
    obtain ⟨lv, ow, hst, e1, e2, e3, hle, hO⟩ := hrel.out
    have hlQ := Lib.hid HQ.out.2.2.2.2.1
    have hnl := Lib.hid HQ.out.2.2.2.2.2
    have hql : (ds.take q).length = q := by rw [List.length_take, ← hnl.out]; omega
    obtain ⟨Ao, co, hv, hlc, _⟩ := ow.val
    rw [hql] at hv hlc
    subst hv
    clear hrel h0 hql
    by_cases hlt : q < n
    · have hqd : q < ds.length := by rw [← hnl.out]; exact hlt
      have hqQ : q < Q.length := by rw [← hlQ.out]; exact hqd
      obtain ⟨b, off, hA, hbl, c0⟩ := hst.row.own.at (q := q) hqd
      subst hA
      have hrd := hst.row.rd q ds[q] Q[q] (by simp [hqd]) (by simp [hqQ])
      have HT := Lib.hid (show ds.take (q + 1) = ds.take q ++ [ds[q]] by rw [List.take_succ_eq_append_getElem hqd])
      have HON := Lib.hid (fun hc => go_on hqQ hc e1 e2 e3)
      have HNO := Lib.hid (fun hc => stop_no hqQ hc e1 e2 e3)
      have hxl := HQ.out.2.1 Q[q] (List.getElem_mem hqQ)
      have hn28 := hrd.1
      generalize ds[q] = d at c0 hrd HT hn28
      generalize Q[q] = x at hrd HON HNO hxl hn28
      obtain ⟨Ai, ni, ci⟩ := d
      replace c0 : wr.cell? ⟨b, off + q, none⟩ = some (.slice Ai ni ci) := c0
      replace hn28 : x.length = ni := hn28
      have hni : ni ≤ 100000 := by omega
      obtain ⟨N28, hN28⟩ : ∃ N, N = ni + 28 := ⟨_, rfl⟩
      have cs := cost_same hni Ai ci wr.drew
      rw [← hN28] at cs
      have okv : BkOk r u lv := ⟨OK.out.rate, OK.out.burst, Nat.le_trans hle OK.out.level⟩
      have tk := pk_take gb r u lv (N28 : Int) wr.drew (hst.bkt.on (belowDrewN wr 1)) okv (by unfold I64; omega)
      obtain ⟨k0, _, _⟩ := hst.cells.1
      replace k0 : wr.drew.cell? ⟨G, 0, none⟩ = some (.pointer (some ⟨gb, 0, none⟩)) := k0
      have hG1 := hst.blk.lt
      have g1 : decide ((q : Int) < (n : Int)) = true := by simp; omega
      have g2 : decide (q < n) = true := by simpa using hlt
      have g3 : (q : Int) < (n : Int) := by omega
      have h28 : N28 = x.length + 28 := by rw [hN28, hn28]
      have hst1 := hst.on (belowDrewN wr 1)
      have hO1 : OnlyS (fun k => k = gb) w wr.drew := hO.trans (OnlyS.of (S := fun k => k = gb) (belowDrewN wr 1)) (fun i hi _ => hi)
      have ow1 := ow.on (belowDrewN wr 1)
      have HK := Lib.hid (⟨hst1, ow1, hO1, hle⟩ : _ ∧ _ ∧ _ ∧ _)
      by_cases hc : costN x * 1000000 ≤ lv
      · have htk := take_at h28 hc
        rw [htk.1, htk.2] at tk
        obtain ⟨l2, hl2⟩ : ∃ l2, l2 = lv - costN x * 1000000 := ⟨_, rfl⟩
        rw [← hl2] at tk
        have E := Lib.hid (HON.out hc)
        rw [← hl2] at E
        have HL2 := Lib.hid (show l2 ≤ l by omega)
        have TK := Lib.hid tk
        clear htk hl2 hc tk e1 e2 e3 okv hst ow hO hrd hxl hn28 hN28 h28 hle hst1 ow1 hO1 HON HNO
        go_upto_region 5 with (fail)
        go_still_tail 6, (by kernel_rfl)
        still_call cs
        repeat still_step
        refine wpStill_nil ?_
        change wpList _ _ _ _ _ wr.drew
        clear cs c0
        go_wp2_with fail
        refine TK.out.mono ?_
        rintro e W2 ⟨rfl, hb2, o2⟩
        obtain ⟨hst, ow, hO, hle⟩ := HK.out
        have hgb : gb < w.heap.size := HQ.out.2.2.2.1 gb (HQ.out.2.2.1 gb (.inr (.inl rfl)))
        have hst2 := hst.turn (OnlyS.one (S := fun k => k = gb) o2 rfl) (fun k _ hk => hk) hb2
        have hO2 := hO.trans (OnlyS.one (S := fun k => k = gb) o2 rfl) (fun i hi _ => hi)
        have ow2 := ow.onlyS (OnlyS.one (S := fun k => k = gb) o2 rfl) (fun k hk (e : k = gb) => by have := (ow.lt hk).1; omega)
        have owA := ow2.on (belowA W2 (.cells #[.slice Ai ni ci] 29))
        have hgA : Blk (W2.alloc (.cells #[.slice Ai ni ci] 29)) W2.heap.size 29 #[encS (Ai, ni, ci)] := Blk.new _ _ _
        have hwA := Nat.le_trans hO2.size (belowA W2 (.cells #[.slice Ai ni ci] 29)).size
        have HLq := Lib.hid (show (ds.take q).length ≤ 1000000 by rw [List.length_take]; omega)
        have HK2 := Lib.hid (⟨hst2, hO2⟩ : _ ∧ _)
        clear hst ow hO hb2 o2 hst2 hO2 ow2 TK k0 HK hle
        go_upto_region 7 with (at_builtin; go_loud (with_reducible refine wpList_appendB rfl (.tmp 23) (.tmp 25) rfl rfl w.heap.size (.slice Ao q co) (ds.take q) (by with_unfolding_all rfl) owA W2.heap.size (Ai, ni, ci) (by with_unfolding_all rfl) hgA HLq.out hwA ?_); intro v9 w9 h9)
        obtain ⟨hst2, hO2⟩ := HK2.out
        have hgr : OnlyS (fun k => some k = (Value.slice Ao q co).ownBlock) (W2.alloc (.cells #[.slice Ai ni ci] 29)) w9 := ⟨h9.2.1.os, h9.2.1.tape, h9.2.1.output, h9.2.1.size, fun k hk hn => h9.2.1.block k hk hn⟩
        have hst9 := (hst2.on (belowA W2 (.cells #[.slice Ai ni ci] 29))).keep hgr (fun k hk e => by
          have h1 := (owA.lt e.symm).1
          have h2 := HQ.out.2.2.2.1 k (HQ.out.2.2.1 k hk)
          omega)
        have hO9 := (hO2.trans (OnlyS.of (S := fun k => k = gb) (belowA W2 (.cells #[.slice Ai ni ci] 29))) (fun i hi _ => hi)).trans hgr (fun i hi hlt => by exfalso; have := (owA.lt hi.symm).1; omega)
        have ow9 := h9.1
        rw [← HT.out] at ow9
        have HN := Lib.hid (⟨l2, ow9, hst9, E.out.1, E.out.2.1, E.out.2.2, HL2.out, hO9⟩ : GoAt2 w G gb r u l Q cut (.slice (some ⟨b, off, none⟩) n cv) ds (q + 1) v9 w9)
        clear hst2 hO2 hgr hst9 hO9 ow9 h9 owA hgA hwA
        go_wp2_with fail
        go_roundw
        case rel => exact ⟨q + 1, by omega, by go_num, HN⟩
        case measure => simp [intOf]; omega
      · have htk := take_at_no h28 hc
        rw [htk.1, htk.2] at tk
        have E0 := Lib.hid (HNO.out hc)
        have TK := Lib.hid tk
        have hG : G < wr.heap.size := hG1
        clear htk hc tk e1 e2 e3 okv hst ow hO hrd hxl hn28 hN28 h28 hle hst1 ow1 hO1 HON HNO
        go_upto_region 5 with (fail)
        go_still_tail 6, (by kernel_rfl)
        still_call cs
        repeat still_step
        refine wpStill_nil ?_
        change wpList _ _ _ _ _ wr.drew
        clear cs c0
        go_wp2_with fail
        refine TK.out.mono ?_
        rintro e W2 ⟨rfl, hb2, o2⟩
        obtain ⟨hst, ow, hO, hle⟩ := HK.out
        have hgb : gb < w.heap.size := HQ.out.2.2.2.1 gb (HQ.out.2.2.1 gb (.inr (.inl rfl)))
        have hst := hst.turn (OnlyS.one (S := fun k => k = gb) o2 rfl) (fun k _ hk => hk) hb2
        have ow := ow.onlyS (OnlyS.one (S := fun k => k = gb) o2 rfl) (fun k hk (e : k = gb) => by have := (ow.lt hk).1; omega)
        have hO := hO.trans (OnlyS.one (S := fun k => k = gb) o2 rfl) (fun i hi _ => hi)
        have E := E0.out
        clear hb2 o2 TK k0 HK hle hG hgb
        obtain ⟨⟨_, c1, _⟩, f1, _⟩ := hst.cells
        have hD0 := pq_del (m := q) hst.row.own hq (by omega)
        obtain ⟨m7, hm7⟩ : ∃ m, m = n - q := ⟨_, rfl⟩
        rw [← hm7] at hD0
        have HK := Lib.hid (⟨hst, ow, hO, E⟩ : _ ∧ _ ∧ _ ∧ _)
        have HD0 := Lib.hid hD0
        have hGl := hst.blk.lt
        have hGT : ¬ some G = (Value.slice (some ⟨b, off, none⟩) n cv).ownBlock := fun e => hst.neG.1 e.symm
        have HGT := Lib.hid hGT
        clear hst ow hO E hD0 hm7 hGT
        go_wp2_with fail
        refine HD0.out.mono ?_
        rintro e W3 ⟨rfl, d1, d2⟩
        obtain ⟨hst, ow, hO, E⟩ := HK.out
        have hBW : Blk W3 G 55 #[.pointer (some ⟨gb, 0, none⟩), .slice (some ⟨b, off, none⟩) n cv, .int .i64 (cut : Int)] := (d2.block G hGl HGT.out).trans hst.blk
        have c3 : W3.cell? ⟨G, 1, none⟩ = some (.slice (some ⟨b, off, none⟩) n cv) := hBW.cell 1
        have f3 : W3.frozen? ⟨G, 1, none⟩ = false := hBW.frozen 1
        have HP := Lib.hid (go_end (S := S) (l := l) (by have := HQ.out.2.2.2.2.1; have := HQ.out.2.2.2.2.2; omega) ow hst E.1 E.2.1 E.2.2 hO HQ.out.2.2.1 HQ.out.2.2.2.1 d1 (by first | rfl | (cases Av <;> rfl)) d2)
        clear hst ow hO E hBW d1 d2 c1 f1 hGl
        go_wp2_with fail
        go_ret
        exact HP.out
    · have g1 : decide ((q : Int) < (n : Int)) = false := by simp; omega
      have E := stop_end (q := q) (by rw [← hlQ.out, ← hnl.out]; omega) e1 e2 e3
      clear e1 e2 e3 hle
      obtain ⟨⟨_, c1, _⟩, f1, _⟩ := hst.cells
      have hD0 := pq_del (m := q) hst.row.own hq (by omega)
      obtain ⟨m7, hm7⟩ : ∃ m, m = n - q := ⟨_, rfl⟩
      rw [← hm7] at hD0
      have HK := Lib.hid (⟨hst, ow, hO, E⟩ : _ ∧ _ ∧ _ ∧ _)
      have HD0 := Lib.hid hD0
      have hGl := hst.blk.lt
      have hGT : ¬ some G = (Value.slice Av n cv).ownBlock := fun e => hst.neG.1 e.symm
      have HGT := Lib.hid hGT
      clear hst ow hO E hD0 hm7 hGT
      go_wp2_with fail
      refine HD0.out.mono ?_
      rintro e W3 ⟨rfl, d1, d2⟩
      obtain ⟨hst, ow, hO, E⟩ := HK.out
      have hBW : Blk W3 G 55 #[.pointer (some ⟨gb, 0, none⟩), .slice Av n cv, .int .i64 (cut : Int)] := (d2.block G hGl HGT.out).trans hst.blk
      have c3 : W3.cell? ⟨G, 1, none⟩ = some (.slice Av n cv) := hBW.cell 1
      have f3 : W3.frozen? ⟨G, 1, none⟩ = false := hBW.frozen 1
      have HP := Lib.hid (go_end (S := S) (l := l) (by have := HQ.out.2.2.2.2.1; have := HQ.out.2.2.2.2.2; omega) ow hst E.1 E.2.1 E.2.2 hO HQ.out.2.2.1 HQ.out.2.2.2.1 d1 (by first | rfl | (cases Av <;> rfl)) d2)
      clear hst ow hO E hBW d1 d2 c1 f1 hGl
      go_wp2_with fail
      go_ret
      exact HP.out
end
end Go.Proofs.Ytdjopbhjfnakdaa
