/- Law 11's helper: rows. -/
import Derived.Test.YtdjopbhjfnakdaaPqI
namespace Go.Proofs.Ytdjopbhjfnakdaa
open Go.RowKit
set_option linter.unusedVariables false
set_option linter.unusedSimpArgs false
set_option maxRecDepth 20000

theorem RB.keep {w w' : World} {A : Option Addr} {n c : Nat} {P : Row8} {F T : Nat → Prop} (h : RB w A n c P F) (ho : OnlyS T w w') (hd : ∀ k, F k → ¬ T k) : RB w' A n c P F := by
  refine ⟨h.1, h.2.1, fun k hk => Nat.lt_of_lt_of_le (h.2.2.1 k hk) ho.size, fun hn => ?_⟩
  obtain ⟨b, off, e, hF, hc⟩ := h.2.2.2 hn
  refine ⟨b, off, e, hF, fun i hi => ?_⟩
  obtain ⟨Ai, ni, ci, h1, h2, h3⟩ := hc i hi
  refine ⟨Ai, ni, ci, (ho.cell (p := ⟨b, off + i, none⟩) (h.2.2.1 b hF) (hd b hF)).trans h1, ⟨h2.1, h2.2.1, fun hn0 => ?_⟩, h3⟩
  obtain ⟨b2, off2, e2, hlt, hc2⟩ := h2.2.2 hn0
  exact ⟨b2, off2, e2, Nat.lt_of_lt_of_le hlt ho.size, fun j hj => (ho.cell (p := ⟨b2, off2 + j, none⟩) hlt (hd b2 (h3 _ e2 hn0))).trans (hc2 j hj)⟩
theorem RB.on {w w' : World} {A : Option Addr} {n c : Nat} {P : Row8} {F : Nat → Prop} (h : RB w A n c P F) (hb : Below w.heap.size w w') : RB w' A n c P F := h.keep (OnlyS.of (S := fun _ => False) hb) (fun _ _ h => h)
set_option maxHeartbeats 2000000 in
theorem rows_yes (w : World) (A : Option Addr) (n c : Nat) (P : Row8) (F : Nat → Prop) (h : RB w A n c P F) (A' : Option Addr) (n' c' : Nat) (h' : RS w w.heap.size A' n' c' P) (hn : n ≤ 1000000) :
    Calls Try.prog 18 #[.slice A n c, .slice A' n' c'] w (Yes w) := by
  have hnn : n = n' := h.1.symm.trans h'.1
  subst hnn
  have HR := Lib.hid h
  have HS := Lib.hid h'
  have hl := Lib.hid h.1
  clear h h'
  go_enter Try.func18, Try.ntmps18
  go_wp2_with fail
  go_loopw [5, 13] (fun _ i wr => ∃ q : Nat, q ≤ n ∧ i = .int .i64 (q : Int) ∧ Below w.heap.size w wr) (fun _ i _ => n - (intOf i).toNat)
  case atStart => exact ⟨0, by omega, rfl, Below.refl _ _⟩
  case round =>
    obtain ⟨q, hq, rfl, b0⟩ := hrel
    by_cases hlt : q < n
    · have g1 : decide ((q : Int) < (n : Int)) = true := by simp; omega
      have g3 : (q : Int) < (n : Int) := by omega
      obtain ⟨b, off, rfl, hF, hc⟩ := (HR.out.on b0).2.2.2 (by omega)
      obtain ⟨Ai, ni, ci, c0, r0, _⟩ := hc q hlt
      have hql : q < P.length := by rw [hl.out]; exact hlt
      obtain ⟨b', off', rfl, hb', d0⟩ := (HS.out.on b0).at (q := q) hql
      have hPq : P.getD q [] = P[q] := by simp [hql]
      rw [hPq] at r0
      generalize P[q] = x at r0 d0
      have hcv : ∀ k, (convert 29 9 (.slice Ai ni ci)).run Try.prog (wr.drewN k) = .ok (.string (strB x)) (wr.drewN k) := fun k => (r0.on (belowDrewN wr k)).string (P := Try.prog) 29 5 9 Try.underlying29 Try.underlying5 Try.underlying9
      clear hc r0 hPq hF hb'
      go_upto_region 6 with (fail)
      go_quiet (fail)
      go_wp2_with fail
      go_roundw
      case rel => exact ⟨q + 1, by omega, by go_num, b0.trans ((belowDrewN wr _).mono b0.size)⟩
      case measure => simp [intOf]; omega
    · have g1 : decide ((q : Int) < (n : Int)) = false := by simp; omega
      go_wp2_with fail
      go_ret
      exact ⟨rfl, b0⟩
end Go.Proofs.Ytdjopbhjfnakdaa
