/- LimitLeast's walk. -/
import Derived.Test.YtfijlgkgbbemnaaLmL
import Derived.Test.YtfijlgkgbbemnaaRu
import Derived.Deep.Cut
import Derived.Deep.CutBlock
namespace Go.Proofs.Ytfijlgkgbbemnaa
open Go.RowKit
set_option linter.unusedVariables false
set_option linter.unusedSimpArgs false
set_option maxRecDepth 20000

theorem put_last {E : Ents} {e : Ent} (h : ∀ x ∈ E, x.t.owner < e.t.owner) (hl : E.length < 6) : putE E e = E ++ [e] := by
  have hp : posE E e.t.owner = E.length := posE_stop E _ _ (Nat.le_refl _) (fun k hk _ => h _ (List.getElem_mem _)) (fun hk => absurd hk (by omega))
  have hh : hereE E e.t.owner = false := hereE_no (fun hk => absurd hk (by omega))
  unfold putE
  rw [hh, hp, if_neg (by simp), if_pos hl, List.take_length, List.drop_length]
theorem lim_snoc (c : Nat) (E : Ents) (o r : Nat) (v u : Int) (hr : r ≤ 34359738367) : limV c none (E ++ [⟨⟨o, r, v⟩, u⟩]) = min (limV c none E) (r / 8) := by
  have hm : minR (heldR (Ents.T (E ++ [⟨⟨o, r, v⟩, u⟩]))) = min (minR (heldR E.T)) r := by
    unfold Ents.T heldR
    rw [List.map_append, List.map_append]
    show minR (List.map holdT (List.map Ent.t E) ++ [holdT ⟨o, r, v⟩]) = _
    rw [minR_snoc]
    show min _ (min r 1099511627776) = _
    omega
  have h2 : rbC c none = c := rfl
  unfold limV
  rw [hm, h2, if_neg (by simp)]
  by_cases h0 : E.length = 0
  · have hE : E = [] := List.length_eq_zero_iff.1 h0
    subst hE
    rw [if_pos (show ([] : Ents).length = 0 from rfl)]
    have : minR (heldR (Ents.T [])) = 18446744073709551615 := rfl
    rw [this]
    unfold btR
    omega
  · rw [if_neg h0]
    unfold btR
    omega
theorem lim_rb (c : Nat) (E : Ents) (r : Nat) (hr : r ≤ 34359738367) : limV c (some (btR r)) E = min (limV c none E) (r / 8) := by
  have h1 : rbC c (some (btR r)) = min c (r / 8) := by show min c (btR r) = _; unfold btR; omega
  have h2 : rbC c none = c := rfl
  unfold limV
  rw [h1, h2]
  split <;> omega
theorem q8 {r q : Nat} (h : r / 8 = q) (hr : r ≤ 34359738367) : IntKind.u64.wrap ((r : Int) / 8) = (q : Int) := by rw [IntKind.wrap_u64]; omega
theorem w8 {q : Nat} (h : q ≤ 34359738367) : wrap64 (q : Int) = (q : Int) := by unfold wrap64; omega
theorem mn8 {a b c : Nat} (h : min a b = c) (hb : b ≤ 34359738367) : (if wrap64 (b : Int) < (a : Int) then wrap64 (b : Int) else (a : Int)) = (c : Int) := by rw [w8 hb]; split <;> omega
/-- Behind q rates. -/
structure LsE (c : Nat) (E : Ents) (q n1 : Nat) : Prop where
  len : E.length = q
  all : ∀ e ∈ E, e.t.owner < q ∧ e.u = 1000005
  lim : limV c none E = n1
theorem LsE.start (c : Nat) : LsE c [] 0 c := ⟨rfl, (fun e h => by cases h), rfl⟩
theorem LsE.step {c q n1 r : Nat} {E : Ents} (h : LsE c E q n1) (hr : r ≤ 34359738367) : LsE c (E ++ [⟨⟨q, r, 0⟩, 1000005⟩]) (q + 1) (min n1 (r / 8)) := by
  refine ⟨by rw [List.length_append, h.len]; rfl, fun e he => ?_, by rw [lim_snoc c E q r 0 1000005 hr, h.lim]⟩
  rcases List.mem_append.1 he with h1 | h1
  · have := h.all e h1
    exact ⟨by omega, this.2⟩
  · rw [List.mem_singleton] at h1
    subst h1
    exact ⟨by show q < q + 1; omega, rfl⟩
theorem LsE.put {c q n1 r : Nat} {E : Ents} (h : LsE c E q n1) (hq : q < 6) : putE E ⟨⟨q, r, 0⟩, untilE 5⟩ = E ++ [⟨⟨q, r, 0⟩, 1000005⟩] := by
  rw [show untilE 5 = 1000005 by simp [untilE, addC, po]]
  exact put_last (fun x hx => (h.all x hx).1) (by rw [h.len]; exact hq)
theorem LsE.ok {c q n1 o : Nat} {E : Ents} (h : LsE c E q n1) (hq : q < 6) : okE E o = true := by
  unfold okE
  rw [h.len]
  simp [hq]
theorem LsE.tick {c q n1 : Nat} {E : Ents} (h : LsE c E q n1) : tickE E 1000005 = [] := by
  unfold tickE
  refine List.filter_eq_nil_iff.2 fun e he => ?_
  rw [(h.all e he).2]
  simp
set_option maxHeartbeats 4000000 in
theorem limitLeast_walk (k : Int) (A : Option Addr) (n c : Nat) (F : Nat → Nat) (p : Nat) (w : World) (_ : I64 k) (hr : RU w w.heap.size A n c F) (hn : n ≤ 281474976710656) (_ : p < 18446744073709551616) : Calls Try.prog 5 #[.int .i64 k, .slice A n c, .int .u64 (p : Int)] w (Yes w) := by
  obtain ⟨z, hz, hzl⟩ := bits_and_at k (m := 1073741823) (M := 1073741823) rfl (by decide)
  obtain ⟨rb, hrb, hrbl⟩ := and64_at (p : Int) (m := 34359738367) (M := 34359738367) rfl (by decide)
  have HP := Lib.hid (⟨hz, hrb⟩ : _ ∧ _)
  clear hz hrb
  obtain ⟨cc, hcc⟩ : ∃ q, 1 + z = q := ⟨_, rfl⟩
  have AA := Lib.hid (wi_at (a := 1) (b := (z : Int)) (c := cc) (by omega) (by omega))
  have hccl : cc ≤ 1073741824 := by omega
  have hcc1 : 1 ≤ cc := by omega
  have HC := Lib.hid (by unfold capN; rw [if_neg (by omega)]; omega : capN (cc : Int) = cc)
  have IC := Lib.hid (fun (k : Int) (h1 : -1 ≤ k) (h2 : k ≤ 1099511627776) => (by unfold I64; omega : I64 k))
  have IX := Lib.hid (IC.out (cc : Int) (by omega) (by omega))
  have HR := Lib.hid hr
  clear hcc hzl hr
  have a1 := AA.out
  have hz := HP.out.1
  go_enter Try.func5, Try.ntmps5
  go_wp2_with fail
  ((with_reducible refine (lm_new_at (cc : Int) IX.out _ (c := cc) HC.out).mono ?_); rintro e w1 ⟨G, S, rfl, h1⟩)
  have H1 := Lib.hid h1
  clear h1 a1 hz
  go_upto_block 0 with (fail)
  go_cut [9, 10, 11] from 23 to 49 (fun v _ _ wx => Hid (∃ (q n1 : Nat) (E : Ents) (S : Nat → Prop), q ≤ 6 ∧ v = .int .i64 (n1 : Int) ∧ n1 ≤ 1073741824 ∧ LsE cc E q n1 ∧ LmP1 w G cc none E S wx))
  case first =>
    go_wp2_with fail
    go_loopw [9, 10, 11] (fun v i _ wr => ∃ (q n1 : Nat), q ≤ n ∧ q ≤ 6 ∧ n1 ≤ 1073741824 ∧ i = .int .i64 (q : Int) ∧ v = .int .i64 (n1 : Int) ∧ Hid (∃ (E : Ents) (S : Nat → Prop), LsE cc E q n1 ∧ LmP1 w G cc none E S wr)) (fun _ i _ _ => 6 - (intOf i).toNat)
    case atStart => exact ⟨0, cc, by omega, by omega, hccl, rfl, rfl, Lib.hid ⟨[], S, LsE.start cc, H1.out⟩⟩
    case round =>
      obtain ⟨q, n1, hqn, hq, hn1, rfl, rfl, HQ⟩ := hrel
      clear H1
      by_cases hlt : q < n ∧ q < 6
      · obtain ⟨hl1, hl2⟩ := hlt
        have g1 : decide ((q : Int) < (n : Int)) = true := by simp; omega
        have g2 : decide ((q : Int) < 6) = true := by simp; omega
        have g3 : (q : Int) < (n : Int) := by omega
        obtain ⟨E, S, hE, h2⟩ := HQ.out
        obtain ⟨bA, off, rfl, hbA, hc⟩ := (HR.out.below h2.below).2.2 (by omega)
        have x0 := hc q hl1
        generalize F q = x at x0
        obtain ⟨r, hr, hrl⟩ := and64_at (x : Int) (m := 34359738367) (M := 34359738367) rfl (by decide)
        have IN := Lib.hid (l_in (o := q) (r := r) (v := 0) (by omega) (by omega) (.inr rfl))
        have HE := Lib.hid hE
        have HRL := Lib.hid hrl
        have H2 := Lib.hid h2
        clear hc hbA hE h2 HQ hrl
        go_wp2_with fail
        ((with_reducible refine (lm_tmmbr_at H2.out (o := q) (r := r) (b := true) (E' := E ++ [⟨⟨q, r, 0⟩, 1000005⟩]) IN.out (IC.out 5 (by decide) (by decide)) rfl rfl (HE.out.put hl2) (HE.out.ok hl2)).mono ?_); rintro e w2 ⟨rfl, S2, h2⟩)
        have H2 := Lib.hid h2
        obtain ⟨n2, hn2⟩ : ∃ m, min n1 (r / 8) = m := ⟨_, rfl⟩
        have hn2l : n2 ≤ 1073741824 := by omega
        obtain ⟨r8, hr8⟩ : ∃ q, r / 8 = q := ⟨_, rfl⟩
        have V := Lib.hid (⟨q8 hr8 HRL.out, mn8 (hr8 ▸ hn2) (by have := HRL.out; omega)⟩ : _ ∧ (if wrap64 (r8 : Int) < (n1 : Int) then wrap64 (r8 : Int) else (n1 : Int)) = (n2 : Int))
        have HE2 : Hid (LsE cc (E ++ [⟨⟨q, r, 0⟩, 1000005⟩]) (q + 1) n2) := Lib.hid (hn2 ▸ HE.out.step HRL.out)
        clear h2 hn2 x0 hr hr8
        have v1 := V.out.1
        go_wp2_with fail
        go_roundw
        case rel => exact ⟨q + 1, n2, by omega, by omega, hn2l, by go_num, by rw [V.out.2], Lib.hid ⟨_, S2, HE2.out, H2.out⟩⟩
        case measure => simp [intOf]; omega
      · by_cases hl1 : q < n
        · have g1 : decide ((q : Int) < (n : Int)) = true := by simp; omega
          have g2 : decide ((q : Int) < 6) = false := by simp; omega
          clear hlt
          go_wp2_with fail
          go_meet
          exact Lib.hid (by obtain ⟨E, S, h⟩ := HQ.out; exact ⟨q, n1, E, S, hq, rfl, hn1, h⟩)
        · have g1 : decide ((q : Int) < (n : Int)) = false := by simp; omega
          clear hlt
          go_wp2_with fail
          go_meet
          exact Lib.hid (by obtain ⟨E, S, h⟩ := HQ.out; exact ⟨q, n1, E, S, hq, rfl, hn1, h⟩)
  case rest =>
    obtain ⟨q, n1, E, S, hq, rfl, hn1, hE, h2⟩ := hcut.out
    obtain ⟨nb, hnb⟩ : ∃ m, min n1 (rb / 8) = m := ⟨_, rfl⟩
    obtain ⟨nc, hnc⟩ : ∃ m, min cc (rb / 8) = m := ⟨_, rfl⟩
    have L1 := Lib.hid (by rw [hE.lim] : ((limV cc none E : Nat) : Int) = (n1 : Int))
    have L2 := Lib.hid (by rw [lim_rb cc E rb hrbl, hE.lim, hnb] : ((limV cc (some (btR rb)) E : Nat) : Int) = (nb : Int))
    have L3 := Lib.hid (by rw [lim_rb cc [] rb hrbl, hnc.symm]; rfl : ((limV cc (some (btR rb)) [] : Nat) : Int) = (nc : Int))
    have LR := Lib.hid (rb_some (btR_le rb))
    obtain ⟨r8, hr8⟩ : ∃ q, rb / 8 = q := ⟨_, rfl⟩
    have V := Lib.hid (⟨q8 hr8 hrbl, mn8 (hr8 ▸ hnb) (by omega), mn8 (hr8 ▸ hnc) (by omega)⟩ : _ ∧ (if wrap64 (r8 : Int) < (n1 : Int) then wrap64 (r8 : Int) else (n1 : Int)) = (nb : Int) ∧ (if wrap64 (r8 : Int) < (cc : Int) then wrap64 (r8 : Int) else (cc : Int)) = (nc : Int))
    have T1 := Lib.hid hE.tick
    have hlE := Lib.hid hE.len
    have HCC := Lib.hid (by omega : cc ≤ 1099511627776)
    have HRB := Lib.hid (by omega : rb < 18446744073709551616)
    have H2 := Lib.hid h2
    clear hcut hE h2 hnb hnc hrbl H1 hr8
    have hrb := HP.out.2
    go_wp2_with fail
    ((with_reducible refine (lm_rate_at H2.out HCC.out rb_none (n := (n1 : Int)) L1.out).mono ?_); rintro e w3 ⟨rfl, h3⟩)
    have H3 := Lib.hid h3
    clear h3
    go_wp2_with fail
    ((with_reducible refine (lm_remb_at H3.out (r := rb) HRB.out rfl).mono ?_); rintro e w4 ⟨rfl, S4, h4⟩)
    have H4 := Lib.hid h4
    clear h4
    go_wp2_with fail
    ((with_reducible refine (lm_rate_at H4.out HCC.out LR.out (n := (nb : Int)) L2.out).mono ?_); rintro e w5 ⟨rfl, h5⟩)
    have H5 := Lib.hid h5
    clear h5
    go_wp2_with fail
    obtain ⟨d, hd⟩ : ∃ d, E.length - ([] : Ents).length = d := ⟨_, rfl⟩
    have HD := Lib.hid hd
    clear hd
    ((with_reducible refine (lm_tick_at H5.out (E' := []) (n := (d : Int)) (IC.out 1000005 (by decide) (by decide)) T1.out (by rw [T1.out, HD.out])).mono ?_); rintro e w6 ⟨rfl, S6, h6⟩)
    have H6 := Lib.hid h6
    clear h6 hrb
    have v1 := V.out.1
    have v3 := V.out.2.1
    have v4 := V.out.2.2
    go_wp2_with fail
    ((with_reducible refine (lm_rate_at H6.out HCC.out LR.out (n := (nc : Int)) L3.out).mono ?_); rintro e w7 ⟨rfl, h7⟩)
    have H7 := Lib.hid h7.below
    clear h7
    go_wp2_with fail
    ((with_reducible refine (known14_any _).mono ?_); rintro e w8 ⟨rfl, b8⟩)
    have H8 := Lib.hid (H7.out.trans (b8.mono H7.out.size))
    clear b8
    go_wp2_with fail
    go_ret
    exact ⟨rfl, H8.out⟩
end Go.Proofs.Ytfijlgkgbbemnaa
