/- Contracts: ctl.fits, ctl.Right, of any message. -/
import Derived.Test.YtgjncaobcgjefaaClL
import Derived.Test.YtgjncaobcgjefaaNi
namespace Go.Proofs.Ytgjncaobcgjefaa.RP
open Go.RowKit
set_option linter.unusedVariables false
set_option linter.unusedSimpArgs false
set_option maxRecDepth 20000

theorem firstE_at : ∀ (l : List Int) (q : Nat) (h : q < l.length), (∀ (j : Nat) (hj : j < l.length), j < q → l[j] = 0) → l[q] ≠ 0 → firstE l = l[q]
  | x :: r, 0, _, _, hx => by
    simp only [List.getElem_cons_zero] at hx ⊢
    simp [firstE, hx]
  | x :: r, q + 1, h, h0, hx => by
    have hx0 : x = 0 := h0 0 (by simp) (by omega)
    subst hx0
    simp only [firstE, if_true, List.getElem_cons_succ] at hx ⊢
    exact firstE_at r q (by simpa using h) (fun j hj hjq => by have := h0 (j + 1) (by simpa using hj) (by omega); simpa using this) hx
theorem firstE_all : ∀ (l : List Int), (∀ (j : Nat) (hj : j < l.length), l[j] = 0) → firstE l = 0
  | [], _ => rfl
  | x :: r, h0 => by
    have hx0 : x = 0 := h0 0 (by simp)
    subst hx0
    simp only [firstE, if_true]
    exact firstE_all r fun j hj => by have := h0 (j + 1) (by simpa using hj); simpa using this
theorem blk3r {W : World} {R : Nat} {t : TypeId} {v0 v1 v2 : Value} (h : Blk W R t #[v0, v1, v2]) : W.cell? ⟨R, 0, none⟩ = some v0 ∧ W.cell? ⟨R, 1, none⟩ = some v1 ∧ W.cell? ⟨R, 2, none⟩ = some v2 := ⟨h.cell 0, h.cell 1, h.cell 2⟩
set_option maxHeartbeats 4000000 in
theorem fits_any (x : Ctl) (A : Option Addr) (cp : Nat) (n : Int) (h1 : 1 ≤ n) (h7 : n ≤ 7) (w : World) (hl : RL w w.heap.size A x.layers.length cp x.layers) (hL : x.layers.length ≤ 1000000) : Calls Try.prog 31 #[x.val A cp, .int .i64 n] w (Ans (.int .i64 (x.fits n)) w) := by
  have hM := Blk.new w 25 (x.cells A cp)
  have hb0 := below_alloc w (.cells (x.cells A cp) 25)
  by_cases h2 : n = 2
  · subst h2
    have hC := fun W hb => ctl_layers x.layers A x.layers.length cp W (hl.on hb) hL
    have e0 : x.fits 2 = layE x.layers := rfl
    rw [e0]
    generalize layE x.layers = R at hC ⊢
    obtain ⟨k, p, l, e, h, s, y, d⟩ := x
    simp only [Ctl.val, Ctl.cells] at hM hb0 hC ⊢
    clear hl hL e0
    have HC := Lib.hid hC
    clear hC
    generalize l.length = m at HC hM hb0 ⊢
    go_enter Try.func31, Try.ntmps31
    go_wp2_with fail
    refine (HC.out _ hb0).mono ?_
    rintro e' w1 ⟨rfl, b1⟩
    have b2 := hb0.trans (b1.mono hb0.size)
    clear b1
    go_wp2_with fail
    go_ret
    exact ⟨rfl, b2⟩
  · have hn : n = 1 ∨ n = 3 ∨ n = 4 ∨ n = 5 ∨ n = 6 ∨ n = 7 := by omega
    have e2 : (n == 2) = false := by simpa using h2
    have e0 : x.fits n = if x.num n < rLeast n then 1 else if rMost n < x.num n then 1 else 0 := by unfold Ctl.fits; rw [if_neg h2]
    have HN := Lib.hid (number_any x A cp n hn)
    have HR := Lib.hid (ruleOf_any n hn)
    rw [e0]
    clear e0 hl hL h2 hn
    unfold ruleV at HR
    generalize x.num n = v at HN ⊢
    generalize rLeast n = lo at HR ⊢
    generalize rMost n = hi at HR ⊢
    generalize rSize n = sz at HR
    obtain ⟨E, hE⟩ : ∃ E : Int, E = if v < lo then 1 else if hi < v then 1 else 0 := ⟨_, rfl⟩
    rw [← hE]
    have HE := Lib.hid hE
    clear hE
    obtain ⟨k, p, l, e, h, s, y, d⟩ := x
    simp only [Ctl.val, Ctl.cells] at hM hb0 HN ⊢
    generalize l.length = m at HN hM hb0 ⊢
    go_enter Try.func31, Try.ntmps31
    go_wp2_with fail
    refine (HN.out _).mono ?_
    rintro e' w1 ⟨rfl, b1⟩
    have b2 := hb0.trans (b1.mono hb0.size)
    clear b1
    go_wp2_with fail
    refine (HR.out _).mono ?_
    rintro e' w2 ⟨rfl, b1⟩
    have b3 := b2.trans (b1.mono b2.size)
    clear b1 b2 hb0 hM
    have b4 := b3.trans ((below_alloc w2 (.cells #[.int .i64 (sz : Int), .int .i64 lo, .int .i64 hi] 72)).mono b3.size)
    by_cases g1 : v < lo
    · have t1 : decide (v < lo) = true := by simpa using g1
      have hE : E = 1 := by rw [HE.out, if_pos g1]
      subst hE
      clear g1 b3 HE
      go_wp2_with fail
      go_ret
      exact ⟨rfl, b4⟩
    · have t1 : decide (v < lo) = false := by simpa using g1
      by_cases g2 : hi < v
      · have t2 : decide (hi < v) = true := by simpa using g2
        have hE : E = 1 := by rw [HE.out, if_neg g1, if_pos g2]
        subst hE
        clear g1 g2 b3 HE
        go_wp2_with fail
        go_ret
        exact ⟨rfl, b4⟩
      · have t2 : decide (hi < v) = false := by simpa using g2
        have hE : E = 0 := by rw [HE.out, if_neg g1, if_neg g2]
        subst hE
        clear g1 g2 b3 HE
        go_wp2_with fail
        go_ret
        exact ⟨rfl, b4⟩
theorem names_at {k : Int} {n : Int} (h : n ∈ names k) : 1 ≤ n ∧ n ≤ 7 := by
  unfold names at h
  repeat' split at h
  all_goals simp at h; try omega
set_option maxHeartbeats 4000000 in
theorem right_ctl (x : Ctl) (A : Option Addr) (cp : Nat) (w : World) (hl : RL w w.heap.size A x.layers.length cp x.layers) (hL : x.layers.length ≤ 1000000) : Calls Try.prog 16 #[x.val A cp] w (Ans (.int .i64 x.err) w) := by
  rw [← errP_eq]
  have hM := Blk.new w 25 (x.cells A cp)
  have hb0 := below_alloc w (.cells (x.cells A cp) 25)
  have HF : Hid (∀ n : Int, n ∈ names x.kind → ∀ W, Below w.heap.size w W → Calls Try.prog 31 #[x.val A cp, .int .i64 n] W (Ans (.int .i64 (x.fits n)) W)) := Lib.hid fun n hn W hb => fits_any x A cp n (names_at hn).1 (names_at hn).2 W (hl.on hb) hL
  have HA : Hid (∀ (W : World) (B : Option Addr) (m : Nat), RJ W W.heap.size B m m (names x.kind) → m ≤ 3 → Calls Try.prog 30 #[x.val A cp, .slice B m m] W (Ans (.bool (x.alone (names x.kind))) W)) := Lib.hid fun W B m h hm => alone_any x A cp B m m (names x.kind) W h (by omega)
  have HK := Lib.hid (fieldsOf_any x.kind)
  have HE : Hid (∀ E, x.errP = E ↔ E = if isK x.kind = false then 12 else if x.alone (names x.kind) = false then 12 else firstE ((names x.kind).map x.fits)) := Lib.hid fun E => by unfold Ctl.errP; exact ⟨fun h => h.symm, fun h => h.symm⟩
  generalize x.errP = E at HE ⊢
  unfold FieldsOut at HK
  obtain ⟨L, hLn⟩ : ∃ L, L = names x.kind := ⟨_, rfl⟩
  rw [← hLn] at HF HA HK HE
  clear hLn hl hL
  obtain ⟨ft, hft⟩ : ∃ f : Int → Int, f = x.fits := ⟨_, rfl⟩
  rw [← hft] at HE HF
  clear hft
  generalize x.alone L = al at HA HE
  generalize hik : isK x.kind = ik at HK HE
  clear hik
  obtain ⟨k, p, l, e, h, s, y, d⟩ := x
  simp only [Ctl.val, Ctl.cells] at hM hb0 HF HA HK HE ⊢
  generalize l.length = m at HF HA hM hb0 ⊢
  go_enter Try.func16, Try.ntmps16
  go_wp2_with fail
  generalize w.alloc (.cells #[.int .i64 k, .int .i64 p, .slice A m cp, .int .i64 e, .int .i64 h, .int .i64 s, .int .i64 y, .int .i64 d] 25) = W0 at hM hb0 ⊢
  obtain ⟨g, hg⟩ : ∃ g, g = w.heap.size := ⟨_, rfl⟩
  rw [← hg] at hM ⊢
  have HG := Lib.hid hg
  clear hg
  refine (HK.out _).mono ?_
  rintro e' W1 ⟨B, mm, rfl, hR, hm3, b1⟩
  have b1' := b1
  have hM := hM.below b1 hM.lt
  have hgl := hM.lt
  have b2 := hb0.trans (b1.mono hb0.size)
  have kc := blk8 hM
  clear b1 hb0
  by_cases hik : ik = true
  case neg =>
    have hik : ik = false := by simpa using hik
    subst hik
    have hE : E = 12 := (HE.out E).1 (by rfl)
    subst hE
    go_wp2_with fail
    go_ret
    exact ⟨rfl, b2⟩
  subst hik
  have hAc := HA.out W1 B mm hR hm3
  clear HA HK
  by_cases hal : al = true
  case neg =>
    have hal : al = false := by simpa using hal
    subst hal
    have hE : E = 12 := (HE.out E).1 (by rfl)
    subst hE
    go_wp2_with fail
    refine hAc.mono ?_
    rintro e' w2 ⟨rfl, b3⟩
    have b4 := b2.trans (b3.mono b2.size)
    clear b3 kc
    go_wp2_with fail
    go_ret
    exact ⟨rfl, b4⟩
  subst hal
  have HE2 : Hid (E = firstE (L.map ft)) := Lib.hid ((HE.out E).1 (by rfl))
  clear HE
  go_wp2_with fail
  refine hAc.mono ?_
  rintro e' W2 ⟨rfl, b3⟩
  have hR := hR.on b3
  have hM := hM.below b3 hgl
  have hgl := hM.lt
  have b4 := b2.trans (b3.mono b2.size)
  clear b3 kc hAc b2 b1'
  have HLn := Lib.hid hR.1
  go_wp2_with fail
  go_loopw [6, 7, 24] (fun _ _ i wr => ∃ q : Nat, q ≤ mm ∧ i = .int .i64 (q : Int) ∧ Hid (∀ (j : Nat) (hj : j < L.length), j < q → ft L[j] = 0) ∧ Below W2.heap.size W2 wr) (fun _ _ i _ => mm - (intOf i).toNat)
  case atStart => exact ⟨0, by omega, rfl, Lib.hid (fun j hj h => by omega), Below.refl _ _⟩
  obtain ⟨q, hq, rfl, HQ, hb⟩ := hrel
  have hbe := b4.trans (hb.mono b4.size)
  by_cases hlt : q < mm
  case neg =>
    have g3 : ¬ (q : Int) < (mm : Int) := by omega
    have hE : E = 0 := by
      rw [HE2.out]
      refine firstE_all _ fun j hj => ?_
      have hj' : j < L.length := by simpa using hj
      rw [List.getElem_map]
      exact HQ.out j hj' (by have := HLn.out; omega)
    subst hE
    go_wp2_with fail
    go_ret
    exact ⟨rfl, hbe⟩
  have g3 : decide ((q : Int) < (mm : Int)) = true := by simp; omega
  have hql : q < L.length := by rw [HLn.out]; exact hlt
  obtain ⟨b, off, rfl, hbl, k0⟩ := (hR.on hb).at hql
  have kc := blk8 (hM.below hb hgl)
  have hFq := HF.out L[q] (List.getElem_mem hql) _ hbe
  obtain ⟨v, hv⟩ : ∃ v, v = L[q] := ⟨_, rfl⟩
  rw [← hv] at k0 hFq
  obtain ⟨f, hf⟩ : ∃ f, f = ft v := ⟨_, rfl⟩
  rw [← hf] at hFq
  have HV := Lib.hid (hf.trans (congrArg ft hv))
  clear hf hv
  go_wp2_with fail
  refine hFq.mono ?_
  rintro e' w3 ⟨rfl, b5⟩
  have b6 := hbe.trans (b5.mono hbe.size)
  have b7 := hb.trans (b5.mono hb.size)
  clear b5 kc k0 hbe
  by_cases hf0 : f = 0
  · have t0 : (f != 0) = false := by simpa using hf0
    have HQ2 : Hid (∀ (j : Nat) (hj : j < L.length), j < q + 1 → ft L[j] = 0) := Lib.hid fun j hj hjq => by
      by_cases hjj : j = q
      · subst hjj
        rw [← HV.out, hf0]
      · exact HQ.out j hj (by omega)
    clear hf0 HQ
    go_wp2_with fail
    go_roundw
    case rel => exact ⟨q + 1, by omega, by go_num, HQ2, b7⟩
    case measure => simp [intOf]; omega
  · have t0 : (f != 0) = true := by simpa using hf0
    have hE : E = f := by
      rw [HE2.out, firstE_at (L.map ft) q (by simpa using hql) (fun j hj hjq => by
        rw [List.getElem_map]
        exact HQ.out j (by simpa using hj) hjq) (by rw [List.getElem_map, ← HV.out]; exact hf0), List.getElem_map, ← HV.out]
    subst hE
    clear hf0 HQ
    go_wp2_with fail
    go_ret
    exact ⟨rfl, b6⟩
end Go.Proofs.Ytgjncaobcgjefaa.RP
