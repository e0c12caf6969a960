/- Law 12's helper: first (the first of a row). -/
import Derived.Test.YtkhhaokelhmikaaAlM
import Derived.Test.YtkhhaokelhmikaaDr
import Derived.BigQuiet
import Derived.Deep.QuietTactic
import Derived.Deep.CutRange
namespace Go.Proofs.Ytkhhaokelhmikaa
open Go.RowKit
set_option linter.unusedVariables false
set_option linter.unusedSimpArgs false
set_option maxRecDepth 20000

theorem RD.getD {w : World} {B : Nat} {A : Option Addr} {n c : Nat} {L : List Du} (h : RD w B A n c L) (hn : 0 < n) : ∃ b off, A = some ⟨b, off, none⟩ ∧ b < B ∧ ∀ j, j < n → w.cell? ⟨b, off + j * 2, none⟩ = some (.int .i64 (L.getD j zD).t) ∧ w.cell? ⟨b, off + j * 2 + 1, none⟩ = some (.int .u64 ((L.getD j zD).k : Int)) := by
  obtain ⟨b, off, e, hb, _⟩ := h.2.2.2.2 hn
  refine ⟨b, off, e, hb, fun j hj => ?_⟩
  have hjl : j < L.length := by rw [h.1]; exact hj
  obtain ⟨b', off', e', _, c0, c1⟩ := h.at hjl
  rw [e] at e'
  injection e' with e'
  injection e' with e1 e2
  subst e1
  subst e2
  rw [getD_at hjl]
  exact ⟨c0, c1⟩
set_option maxHeartbeats 2000000 in
theorem first_any (A : Option Addr) (n c : Nat) (L : List Du) (B : Nat) (w : World) (h : RD w B A n c L) (hn : n ≤ 1000000) :
    Calls Try.prog 16 #[.slice A n c] w (Dn (.int .i64 ((bestI L : Nat) : Int)) w) := by
  have HL := Lib.hid h.1
  have HR := Lib.hid h
  clear h
  go_enter Try.func16, Try.ntmps16
  go_wp2_with fail
  go_loopw [3, 7] (fun b i wr => ∃ q : Nat, q ≤ n ∧ i = .int .i64 (q : Int) ∧ b = .int .i64 ((bestN L q : Nat) : Int) ∧ Hid (∃ m, wr = w.drewN m)) (fun _ i _ => n - (intOf i).toNat)
  case atStart => exact ⟨0, by omega, rfl, rfl, Lib.hid ⟨0, rfl⟩⟩
  case round =>
    obtain ⟨q, hq, rfl, rfl, HW⟩ := hrel
    by_cases hlt : q < n
    · obtain ⟨b, off, rfl, hb, hc⟩ := HR.out.getD (by omega)
      have hbl : bestN L q < n := by
        rcases Nat.eq_zero_or_pos q with h0 | h0
        · subst h0; simp [bestN]; omega
        · have := bestN_lt L q h0; omega
      obtain ⟨a0, a1⟩ := hc q hlt
      obtain ⟨b0, b1⟩ := hc _ hbl
      have HB : Hid (bestN L (q + 1) = if ltB (L.getD q zD) (L.getD (bestN L q) zD) = true then q else bestN L q) := Lib.hid rfl
      generalize L.getD q zD = x at *
      generalize L.getD (bestN L q) zD = y at *
      generalize bestN L q = bn at *
      obtain ⟨xt, xk⟩ := x
      obtain ⟨yt, yk⟩ := y
      simp only at a0 a1 b0 b1
      obtain ⟨m, hm⟩ := HW.out
      have a0 : wr.cell? ⟨b, off + q * 2, none⟩ = some (.int .i64 xt) := by rw [hm]; exact a0
      have a1 : wr.cell? ⟨b, off + q * 2 + 1, none⟩ = some (.int .u64 (xk : Int)) := by rw [hm]; exact a1
      have b0 : wr.cell? ⟨b, off + bn * 2, none⟩ = some (.int .i64 yt) := by rw [hm]; exact b0
      have b1 : wr.cell? ⟨b, off + bn * 2 + 1, none⟩ = some (.int .u64 (yk : Int)) := by rw [hm]; exact b1
      have HM := Lib.hid hm
      clear hm HW hc HL HR hb
      have z1 : (q : Int) < (n : Int) := by omega
      have z2 : (bn : Int) < (n : Int) := by omega
      by_cases c1 : xt < yt
      · have HB2 : Hid (bestN L (q + 1) = q) := Lib.hid (by rw [HB.out, if_pos (by rw [ltB_iff]; exact .inl c1)])
        have d1 : decide (xt < yt) = true := decide_eq_true c1
        clear HB
        go_upto_region 5 with (fail)
        go_quiet (fail)
        go_wp2_with fail
        go_roundw
        case rel => exact ⟨q + 1, by omega, by go_num, by rw [HB2.out], Lib.hid ⟨_, by rw [HM.out, World.drewN_drewN]⟩⟩
        case measure => simp [intOf]; omega
      · have d1 : decide (xt < yt) = false := decide_eq_false c1
        by_cases c2 : xt = yt
        · subst c2
          by_cases c3 : xk < yk
          · have HB2 : Hid (bestN L (q + 1) = q) := Lib.hid (by rw [HB.out, if_pos (by rw [ltB_iff]; exact .inr ⟨rfl, c3⟩)])
            have d2 : decide ((xk : Int) < (yk : Int)) = true := by simp; omega
            clear HB
            go_upto_region 5 with (fail)
            go_quiet (fail)
            go_wp2_with fail
            go_roundw
            case rel => exact ⟨q + 1, by omega, by go_num, by rw [HB2.out], Lib.hid ⟨_, by rw [HM.out, World.drewN_drewN]⟩⟩
            case measure => simp [intOf]; omega
          · have HB2 : Hid (bestN L (q + 1) = bn) := Lib.hid (by rw [HB.out, if_neg (by rw [ltB_iff]; simp only; omega)])
            have d2 : decide ((xk : Int) < (yk : Int)) = false := by simp; omega
            clear HB
            go_upto_region 5 with (fail)
            go_quiet (fail)
            go_wp2_with fail
            go_roundw
            case rel => exact ⟨q + 1, by omega, by go_num, by rw [HB2.out], Lib.hid ⟨_, by rw [HM.out, World.drewN_drewN]⟩⟩
            case measure => simp [intOf]; omega
        · have HB2 : Hid (bestN L (q + 1) = bn) := Lib.hid (by rw [HB.out, if_neg (by rw [ltB_iff]; simp only; omega)])
          have d2 : (xt == yt) = false := by rw [beq_eq_false_iff_ne]; exact c2
          clear HB
          go_upto_region 5 with (fail)
          go_quiet (fail)
          go_wp2_with fail
          go_roundw
          case rel => exact ⟨q + 1, by omega, by go_num, by rw [HB2.out], Lib.hid ⟨_, by rw [HM.out, World.drewN_drewN]⟩⟩
          case measure => simp [intOf]; omega
    · have hqn : q = n := by omega
      have HE : Hid (bestN L q = bestI L) := Lib.hid (by rw [hqn, ← HL.out]; rfl)
      clear hqn HR HL
      have z1 : ¬ (q : Int) < (n : Int) := by omega
      go_wp2_with fail
      go_ret
      exact ⟨by rw [HE.out]; rfl, HW.out⟩
end Go.Proofs.Ytkhhaokelhmikaa
