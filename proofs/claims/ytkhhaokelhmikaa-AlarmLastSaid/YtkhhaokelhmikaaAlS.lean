/- AlarmLast's walk. -/
import Derived.Test.YtkhhaokelhmikaaAlT
import Derived.Test.YtkhhaokelhmikaaRegS
import Derived.StillTailTactics
namespace Go.Proofs.Ytkhhaokelhmikaa
open Go.RowKit Go.Maps
set_option linter.unusedVariables false
set_option linter.unusedSimpArgs false
set_option maxRecDepth 20000

set_option maxHeartbeats 4000000 in
theorem alarmLast_walk (A : Option Addr) (n c : Nat) (F : Nat → Nat) (A' : Option Addr) (n' c' : Nat) (w : World) (hr : RU w w.heap.size A n c F) (hn : n ≤ 281474976710656) (hr' : RI w w.heap.size A' n' c') (hn' : n' ≤ 281474976710656) :
    Calls Try.prog 6 #[.slice A n c, .slice A' n' c'] w (Yes w) := by
  obtain ⟨F', hF'⟩ := hr'.rf
  have HF := Lib.hid hr
  have HF' := Lib.hid hF'
  clear hr hF' hr'
  have hmm := @run_makeMap Try.prog
  go_enter Try.func6, Try.ntmps6
  go_wp2_with fail
  refine (tb_new _).mono ?_
  rintro e w1 ⟨G, S, rfl, p0, hS, b0⟩
  have HP : Hid (TbS w G [] S w1) := Lib.hid ⟨p0, keys_nil, (fun x hx => by cases hx), (by simp), hS, b0⟩
  have hsz := b0.size
  have hlt : ∀ k, S k → k < w1.heap.size := fun k hk => p0.lt hk
  have HL : Hid (Lst w G w1.heap.size 0 [] (.map []) S (w1.alloc (.map #[] 0))) := Lib.hid ⟨HP.out.on (belowA _ _), World.ownsMap_made _ _ _ _, MapR.nil, fun h => by have := hlt _ h; omega, hsz, Nat.le_refl _⟩
  clear p0 hS b0 hsz hlt HP
  go_upto_block 0 with (fail)
  generalize w1.alloc (.map #[] 0) = W1 at HL ⊢
  generalize w1.heap.size = Mb at HL ⊢
  clear hmm
  go_cut [7] from 17 to 54 (fun _ wx => Hid (∃ q L D S, Lst w G Mb q L D S wx ∧ q ≤ 60))
  case first =>
    go_wp2_with fail
    go_loopw [7] (fun i wr => ∃ q : Nat, q ≤ 60 ∧ i = .int .i64 (q : Int) ∧ Hid (∃ L D S, Lst w G Mb q L D S wr)) (fun i _ => 60 - (intOf i).toNat)
    case atStart => exact ⟨0, by omega, rfl, Lib.hid ⟨_, _, _, HL.out⟩⟩
    case round =>
      obtain ⟨q, hq, rfl, HQ⟩ := hrel
      clear HL
      have HD : Hid (∃ q L D S, Lst w G Mb q L D S wr ∧ q ≤ 60) := Lib.hid (by obtain ⟨L, D, S, h⟩ := HQ.out; exact ⟨q, L, D, S, h, hq⟩)
      by_cases h1 : q < n
      · have g1 : decide ((q : Int) < (n : Int)) = true := by simp; omega
        have g1' : (q : Int) < (n : Int) := by omega
        by_cases h2 : q < n'
        · have g2 : decide ((q : Int) < (n' : Int)) = true := by simp; omega
          have g2' : (q : Int) < (n' : Int) := by omega
          by_cases h3 : q < 60
          · have g3 : decide ((q : Int) < 60) = true := by simp; omega
            obtain ⟨L, D, S, hs⟩ := HQ.out
            obtain ⟨bA, off, rfl, hbA, hc⟩ := (HF.out.below hs.tb.below).2.2 (by omega)
            obtain ⟨bB, of2, rfl, hbB, hd⟩ := (HF'.out.below hs.tb.below).2.2 (by omega)
            have x0 := hc q h1
            have y0 := hd q h2
            have hx64 := HF.out.2.1 q h1
            have hy64 := HF'.out.2.1 q h2
            obtain ⟨y, hy⟩ : ∃ y : Nat, bits .and .u64 (F q : Int) 7 = (y : Int) ∧ y < 8 := ⟨F q &&& 7, bits_and_u64_nat (F q) 7 (by omega) (by omega), Nat.lt_of_le_of_lt Nat.and_le_right (by omega)⟩
            have HY := Lib.hid hy
            obtain ⟨x, hx⟩ : ∃ x, x = F q := ⟨_, rfl⟩
            obtain ⟨t, ht⟩ : ∃ t, t = F' q := ⟨_, rfl⟩
            rw [← hx] at x0 HY
            rw [← ht] at y0 hy64
            have HXT := Lib.hid (⟨hx, ht⟩ : _ ∧ _)
            have HT := Lib.hid hy64
            have hy1 := HY.out.1
            have x0d : wr.drew.cell? ⟨bA, off + q, none⟩ = some (.int .u64 (x : Int)) := x0
            have y0d : wr.drew.cell? ⟨bB, of2 + q, none⟩ = some (.int .i64 t) := y0
            have HS := Lib.hid hs
            clear hc hd hbA hbB hx64 hy64 hy hx ht hs x0 y0 HQ HD
            go_upto_region 8 with (fail)
            go_still_tail 10, (by kernel_rfl)
            change wpList _ _ _ _ _ wr.drew
            have HSD : Hid (Lst w G Mb q L D S wr.drew) := Lib.hid (HS.out.on (belowDrewN wr 1))
            clear HS x0d y0d
            go_wp2_with fail
            ((with_reducible refine (tb_set_at (k := y) HSD.out.tb.tb HSD.out.tb.keys HSD.out.tb.ins HSD.out.tb.len (by first | rfl | exact HY.out.1.symm) (by have := HY.out.2; omega) HT.out).mono ?_); rintro e W2 ho)
            obtain ⟨rfl, S2, t2, hS2, ho2⟩ := HSD.out.tb.out ho (setK_keys HSD.out.tb.keys y t) (setK_in HSD.out.tb.ins (by have := HY.out.2; omega) HT.out) (Nat.le_trans (setK_len L y t) (by have := HSD.out.len; omega))
            have mp2 := ownsMap_onlyS HSD.out.mp ho2 HSD.out.sep
            have sep2 : ¬ S2 Mb := fun h => by
              rcases hS2 Mb h with h1 | h1
              · exact HSD.out.sep h1
              · have := HSD.out.mp.lt
                omega
            have x0d : W2.drew.cell? ⟨bA, off + q, none⟩ = some (.int .u64 (x : Int)) := by
              obtain ⟨b', o', eA, _, hc2⟩ := (HF.out.below t2.below).2.2 (by omega)
              injection eA with eA
              injection eA with e1 e2
              subst e1
              subst e2
              rw [HXT.out.1]
              exact hc2 q h1
            have y0d : W2.drew.cell? ⟨bB, of2 + q, none⟩ = some (.int .i64 t) := by
              obtain ⟨b', o', eA, _, hc2⟩ := (HF'.out.below t2.below).2.2 (by omega)
              injection eA with eA
              injection eA with e1 e2
              subst e1
              subst e2
              rw [HXT.out.2]
              exact hc2 q h2
            have hkey : keyOf Try.prog 23 (.int .u64 (y : Int)) = some (.int .u64 (y : Int)) := keyOf_int_mk Try.underlying23 (wfU (by have := HY.out.2; omega))
            have mp2d : W2.drew.ownsMap Try.prog 23 (plainElem Try.prog 2) Mb q D := mp2.drew
            have H2 : Hid (TbS w G (setK L y t) S2 W2.drew ∧ ¬ S2 Mb ∧ MapR (setK L y t) (D.put (.int .u64 (y : Int)) (.lit (.int .i64 t))) ∧ w.heap.size ≤ Mb ∧ (setK L y t).length ≤ q + 1) := Lib.hid ⟨t2.on (belowDrewN W2 1), sep2, HSD.out.rel.put (HSD.out.mp.tidy lawU) HSD.out.tb.keys y t, HSD.out.lo, Nat.le_trans (setK_len L y t) (by have := HSD.out.len; omega)⟩
            have HKY := Lib.hid hkey
            have HMP := Lib.hid mp2d
            clear t2 mp2 sep2 hS2 ho2 ho HSD hkey mp2d
            go_upto_region 9 with (fail)
            go_still_tail 10, (by kernel_rfl)
            change wpList _ _ _ _ _ W2.drew
            clear x0d y0d
            go_wp2_with (at_mapUpdate; refine wpList_mapUpdate_own _ rfl _ _ _ 39 rfl 23 2 lawU Try.underlying39 _ Mb q D rfl HMP.out (by unfold maxLen; omega) _ _ _ rfl rfl HKY.out _ [] (plainElem_int Try.underlying2 (wfI HT.out)) ?_; intro w9 hown9 hgrow9)
            have HR : Hid (∃ L D S, Lst w G Mb (q + 1) L D S w9) := Lib.hid ⟨_, _, S2, H2.out.1.other (only_grown hgrow9) (fun k hk e => H2.out.2.1 (e ▸ hk)) (fun k e => by rw [e]; exact H2.out.2.2.2.1), hown9, H2.out.2.2.1, H2.out.2.1, H2.out.2.2.2.1, H2.out.2.2.2.2⟩
            clear hown9 hgrow9 H2 HMP HKY hy1
            go_roundw
            case rel => exact ⟨q + 1, by omega, by go_num, HR⟩
            case measure => simp [intOf]; omega
          · have g3 : decide ((q : Int) < 60) = false := by simp; omega
            go_wp2_with fail
            go_meet
            exact HD
        · have g2 : decide ((q : Int) < (n' : Int)) = false := by simp; omega
          go_wp2_with fail
          go_meet
          exact HD
      · have g1 : decide ((q : Int) < (n : Int)) = false := by simp; omega
        go_wp2_with fail
        go_meet
        exact HD
  case rest =>
    obtain ⟨q, L, D, S2, hs, hq⟩ := hcut.out
    have HS := Lib.hid hs
    clear HL hcut hs
    go_wp2_with fail
    go_loopw [8] (fun v wr => ∃ k : Nat, k ≤ 8 ∧ v = .int .u64 (k : Int) ∧ Hid (Lst w G Mb q L D S2 wr)) (fun v _ => 8 - (intOf v).toNat)
    case atStart => exact ⟨0, by omega, rfl, HS⟩
    case round =>
      obtain ⟨k, hk, rfl, HW⟩ := hrel
      clear HS
      by_cases hk8 : k < 8
      · have g1 : (k : Int) < 8 := by omega
        have ca := tb_at (k := k) HW.out.tb.tb HW.out.tb.keys HW.out.tb.ins HW.out.tb.len (by omega)
        obtain ⟨lk, hlk⟩ : ∃ lk, lk = lookK L k := ⟨_, rfl⟩
        obtain ⟨hb, hhb⟩ : ∃ hb, hb = hasK L k := ⟨_, rfl⟩
        rw [← hlk, ← hhb] at ca
        have HX := Lib.hid (⟨hlk, hhb⟩ : _ ∧ _)
        clear hlk hhb
        go_wp2_with fail
        ((with_reducible refine ca.mono ?_); rintro e W3 ⟨rfl, b3⟩)
        have H3 := Lib.hid (HW.out.on b3)
        have HKY : Hid (keyOf Try.prog 23 (.int .u64 (k : Int)) = some (.int .u64 (k : Int))) := Lib.hid (keyOf_int_mk Try.underlying23 (wfU (by omega)))
        clear ca HW b3
        have HC9 : Hid (∀ c9 : Int, D.atKey (.int .u64 (k : Int)) (.lit (.int .i64 0)) = .lit (.int .i64 c9) → c9 = lk) := Lib.hid (fun c9 hat => by
          have := H3.out.rel.look k
          rw [hat] at this
          injection this with this
          injection this with _ this
          rw [this, HX.out.1])
        have hh9 : Maps.has D (.int .u64 (k : Int)) = hb := by rw [HX.out.2]; exact H3.out.rel.has k
        clear HX
        cases hb
        all_goals
          go_wp2_with (at_lookup; refine wpList_lookup_own_ok_int _ rfl _ _ 39 rfl 23 2 .i64 lawU Try.underlying39 Try.underlying2 (zeroI _) Mb q D rfl H3.out.mp _ _ rfl HKY.out ?_; intro c9 hat hwc; obtain rfl := HC9.out c9 hat; clear hat hwc)
          go_roundw
          case rel => exact ⟨k + 1, by omega, by go_num, H3⟩
          case measure => simp [intOf]; omega
      · have hk8' : k = 8 := by omega
        subst hk8'
        have cl := tb_len HW.out.tb.tb HW.out.tb.len
        obtain ⟨m, hm⟩ : ∃ m, m = L.length := ⟨_, rfl⟩
        rw [← hm] at cl
        have HM := Lib.hid hm
        clear hm hk8
        go_wp2_with fail
        ((with_reducible refine cl.mono ?_); rintro e W3 hd)
        have H3 := Lib.hid (HW.out.on hd.below)
        obtain ⟨rfl, _⟩ := hd
        have HSZ : Hid ((Maps.size D : Int) = (m : Int)) := Lib.hid (by rw [H3.out.rel.size, HM.out])
        clear cl HW
        go_wp2_with (at_len; refine wpList_len_own _ rfl _ 39 rfl 23 2 Try.underlying39 _ Mb q D rfl H3.out.mp ?_; rw [HSZ.out])
        ((with_reducible refine (known12_any _).mono ?_); rintro e W7 ⟨rfl, d7⟩)
        have b7 := H3.out.tb.below.trans (d7.mono H3.out.tb.below.size)
        clear H3 HSZ d7
        go_wp2_with fail
        go_ret
        exact ⟨rfl, b7⟩
end Go.Proofs.Ytkhhaokelhmikaa
