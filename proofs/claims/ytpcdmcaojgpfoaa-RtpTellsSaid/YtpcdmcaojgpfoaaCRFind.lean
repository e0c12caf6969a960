/- Contracts: rtp.find, readWords. -/
import Derived.Test.YtpcdmcaojgpfoaaCRNum
import Derived.Test.YtpcdmcaojgpfoaaRdP
import Derived.Test.YtpcdmcaojgpfoaaAppG
import Derived.BigQuiet
import Derived.Deep.QuietTactic
import Derived.Deep.CutRange
import Derived.RegionTactic
import Derived.Handy
namespace Go.Proofs.Ytpcdmcaojgpfoaa
open Go.RowKit
set_option linter.unusedVariables false
set_option linter.unusedSimpArgs false
set_option maxRecDepth 20000

/-! ### Bits of a byte -/
theorem all256 {f : Nat → Bool} (h : (List.range 256).all f = true) {n : Nat} (hn : n < 256) : f n = true := (List.all_eq_true.1 h) n (List.mem_range.2 hn)
theorem and15 (n : Nat) (h : n < 256) : bits BinOp.and .u8 (n : Int) 15 = ((n % 16 : Nat) : Int) := by
  have := all256 (f := fun m => decide (bits BinOp.and .u8 (m : Int) 15 = ((m % 16 : Nat) : Int))) (by kernel_rfl) h
  simpa using this
theorem and16 (n : Nat) (h : n < 256) : bits BinOp.and .u8 (n : Int) 16 = (((n / 16 % 2) * 16 : Nat) : Int) := by
  have := all256 (f := fun m => decide (bits BinOp.and .u8 (m : Int) 16 = (((m / 16 % 2) * 16 : Nat) : Int))) (by kernel_rfl) h
  simpa using this
theorem and32 (n : Nat) (h : n < 256) : bits BinOp.and .u8 (n : Int) 32 = (((n / 32 % 2) * 32 : Nat) : Int) := by
  have := all256 (f := fun m => decide (bits BinOp.and .u8 (m : Int) 32 = (((m / 32 % 2) * 32 : Nat) : Int))) (by kernel_rfl) h
  simpa using this
theorem and128 (n : Nat) (h : n < 256) : bits BinOp.and .u8 (n : Int) 128 = (((n / 128) * 128 : Nat) : Int) := by
  have := all256 (f := fun m => decide (bits BinOp.and .u8 (m : Int) 128 = (((m / 128) * 128 : Nat) : Int))) (by kernel_rfl) h
  simpa using this
theorem and192 (n : Nat) (h : n < 256) : bits BinOp.and .u8 (n : Int) 192 = (((n / 64) * 64 : Nat) : Int) := by
  have := all256 (f := fun m => decide (bits BinOp.and .u8 (m : Int) 192 = (((m / 64) * 64 : Nat) : Int))) (by kernel_rfl) h
  simpa using this
theorem and127 (n : Nat) (h : n < 256) : bits BinOp.and .u8 (n : Int) 127 = ((n % 128 : Nat) : Int) := by
  have := all256 (f := fun m => decide (bits BinOp.and .u8 (m : Int) 127 = ((m % 128 : Nat) : Int))) (by kernel_rfl) h
  simpa using this

/-! ### Facts on what fits, by the ways that find goes -/
theorem fit_short {l : List UInt8} (h : l.length < 12) : fit l = false := by
  unfold fit; rw [decide_eq_false (by omega)]; rfl
theorem fit_ext {l : List UInt8} (hx : isX l = true) (h : l.length < hE l + 4) : fit l = false := by
  unfold fit; rw [hx, decide_eq_false (p := hE l + 4 ≤ l.length) (by omega)]; simp
theorem fit_pad {l : List UInt8} (hx : isPd l = true) (h : padB l = 0) : fit l = false := by
  unfold fit; rw [hx, h]; simp
theorem fit_end {l : List UInt8} (h12 : 12 ≤ l.length) (hx : isX l = true → hE l + 4 ≤ l.length) (hp : isPd l = true → padB l ≠ 0) : fit l = decide (pS l + padQ l ≤ l.length) := by
  unfold fit
  rw [decide_eq_true h12, Bool.true_and]
  have e1 : (!isX l || decide (hE l + 4 ≤ l.length)) = true := by
    cases h : isX l with
    | false => rfl
    | true => simp [hx h]
  have e2 : (!isPd l || decide (padB l ≠ 0)) = true := by
    cases h : isPd l with
    | false => rfl
    | true => simp [hp h]
  rw [e1, e2, Bool.true_and, Bool.true_and]
def FindOut (l : List UInt8) (w : World) (e : Ending) (w' : World) : Prop :=
  ∃ a b c : Int, e = .returned (.tuple #[.agg #[.int .i64 a, .int .i64 b, .int .i64 c], .bool (fit l)]) ∧ (fit l = true → a = (hE l : Nat) ∧ b = (pS l : Nat) ∧ c = (pE l : Nat)) ∧ Below w.heap.size w w'
theorem FindOut.no {l : List UInt8} {w w' : World} (h : fit l = false) (a b c : Int) (hb : Below w.heap.size w w') : FindOut l w (.returned (.tuple #[.agg #[.int .i64 a, .int .i64 b, .int .i64 c], .bool false])) w' :=
  ⟨a, b, c, by rw [h], fun h' => absurd (h.symm.trans h') (by simp), hb⟩
theorem FindOut.at_end {l : List UInt8} {w w' : World} (a b z : Int) (v : Bool) (hf : fit l = decide (pS l + padQ l ≤ l.length)) (ha : a = (hE l : Nat)) (hb : b = (pS l : Nat)) (hz : z = (l.length : Int) - (padQ l : Nat)) (hv : v = decide (b ≤ z)) (hw : Below w.heap.size w w') :
    FindOut l w (.returned (.tuple #[.agg #[.int .i64 a, .int .i64 b, .int .i64 z], .bool v])) w' := by
  have hv2 : v = fit l := by
    rw [hv, hf, decide_eq_decide]
    omega
  refine ⟨a, b, z, by rw [hv2], fun h => ⟨ha, hb, ?_⟩, hw⟩
  rw [hf, decide_eq_true_eq] at h
  rw [hz]
  unfold pE
  omega
theorem get_words (A : Option Addr) (n c : Nat) (l : List UInt8) (w : World) (h : R8 w w.heap.size A n c l) (hn : n ≤ 1500) (hx : hE l + 4 ≤ l.length) :
    Calls Try.prog 68 #[.slice A n c, .int .i64 (12 + 4 * (cN l : Int) + 2), .int .i64 2] w fun e w' => e = .returned (.tuple #[.int .u64 (wN l : Nat), .bool true]) ∧ w = w' := by
  have hl := h.1
  have e : (12 + 4 * (cN l : Int) + 2) = ((hE l + 2 : Nat) : Int) := by unfold hE; omega
  rw [e]
  exact get_yes A n c l w h (by omega) (hE l + 2) 2 (by omega) (by omega) (by omega)
theorem get_nowords (A : Option Addr) (n c : Nat) (l : List UInt8) (w : World) (h : R8 w w.heap.size A n c l) (hn : n ≤ 1500) (hx : ¬ hE l + 4 ≤ l.length) :
    Calls Try.prog 68 #[.slice A n c, .int .i64 (12 + 4 * (cN l : Int) + 2), .int .i64 2] w fun e w' => e = .returned (.tuple #[.int .u64 0, .bool false]) ∧ w = w' := by
  have hl := h.1
  have hc : cN l < 16 := by unfold cN; omega
  have e : (12 + 4 * (cN l : Int) + 2) = ((hE l + 2 : Nat) : Int) := by unfold hE; omega
  rw [e]
  refine get_no A n c w (by omega) _ _ (by unfold I64 hE; omega) (.inr ?_)
  unfold thB
  rw [decide_eq_false_iff_not]
  omega
set_option maxHeartbeats 4000000 in
theorem rtp_find (A : Option Addr) (n c : Nat) (l : List UInt8) (w : World) (h : R8 w w.heap.size A n c l) (h0 : 0 < n) (hn : n ≤ 1500) :
    Calls Try.prog 59 #[.slice A n c] w (FindOut l w) := by
  have hl := h.1
  have hbt := bt_lt l 0
  go_enter Try.func59, Try.ntmps59
  by_cases g12 : n < 12
  · have g : (n : Int) < 12 := by omega
    have hf := Lib.hid (fit_short (l := l) (by omega))
    clear h
    go_wp2_with fail
    refine bodyPost_ret (by simp [results, Try.results59, go_sem]; try rfl) rfl ?_
    exact FindOut.no hf.out _ _ _ (by go_grown)
  have g : ¬ (n : Int) < 12 := by omega
  have a15 : bits BinOp.and .u8 (bt l 0 : Int) 15 = ((cN l : Nat) : Int) := and15 _ hbt
  have hcn : cN l < 16 := by unfold cN; omega
  have e0 := h
  obtain ⟨b, off, rfl, hlt, hc⟩ := h.2.2 h0
  have c0 : w.cell? ⟨b, off, none⟩ = some (.int .u8 (bt l 0 : Int)) := by have := hc 0 h0; simpa [bt] using this
  have hr2 := fun W (hW : Below w.heap.size w W) (hx : hE l + 4 ≤ l.length) => get_words _ n c l W (e0.on hW) hn hx
  have hr3 := fun W (hW : Below w.heap.size w W) (hx : ¬ hE l + 4 ≤ l.length) => get_nowords _ n c l W (e0.on hW) hn hx
  have g0 : (0 : Int) < (n : Int) := by omega
  have gi : ((n : Int) - 1).toNat = n - 1 := by omega
  have cL : w.cell? ⟨b, off + (n - 1), none⟩ = some (.int .u8 (padB l : Int)) := by have := hc (n - 1) (by omega); unfold padB bt; rw [hl]; exact this
  have hpb : padB l < 256 := bt_lt l (l.length - 1)
  have hwn : wN l < 65536 := by have := gn_lt l (hE l + 2) 2; simpa [wN] using this
  have hlh := Lib.hid hl
  clear hc hl h e0
  by_cases hx : isX l = true
  · have hxh := Lib.hid hx
    have a16 : bits BinOp.and .u8 (bt l 0 : Int) 16 = 16 := by rw [and16 _ hbt]; unfold isX at hx; rw [decide_eq_true_eq] at hx; rw [hx]; rfl
    clear hx
    by_cases hx4 : hE l + 4 ≤ l.length
    rotate_left
    · have hf := Lib.hid (fit_ext hxh.out (by omega))
      have hr4 := fun W hW => hr3 W hW hx4
      clear hx4 hr3 hr2 cL gi
      go_wp2_with fail
      refine (hr4 _ (by go_grown)).mono ?_
      rintro e w' ⟨rfl, rfl⟩
      go_wp2_with fail
      refine bodyPost_ret (by simp [results, Try.results59, go_sem]; try rfl) rfl ?_
      exact FindOut.no hf.out _ _ _ (by go_grown)
    have hr4 := fun W hW => hr2 W hW hx4
    have hx4 := Lib.hid hx4
    clear hr3 hr2
    go_wp2_with fail
    refine (hr4 _ (by go_grown)).mono ?_
    rintro e w' ⟨rfl, rfl⟩
    clear hr4
    by_cases hp : isPd l = true
    · have hph := Lib.hid hp
      have a32 : bits BinOp.and .u8 (bt l 0 : Int) 32 = 32 := by rw [and32 _ hbt]; unfold isPd at hp; rw [decide_eq_true_eq] at hp; rw [hp]; rfl
      clear hp
      by_cases hz : padB l = 0
      · have hf := Lib.hid (fit_pad hph.out hz)
        rw [hz] at cL
        clear hz
        go_wp2_with fail
        refine bodyPost_ret (by simp [results, Try.results59, go_sem]; try rfl) rfl ?_
        exact FindOut.no hf.out _ _ _ (by go_grown)
      · have hp0 := Lib.hid (show padB l ≠ 0 from hz)
        have gz : ((padB l : Int) == 0) = false := by simp; omega
        clear hz
        have hfe := Lib.hid (fit_end (l := l) (by have := hlh.out; omega) (by intro _; first | exact hx4.out | (rename_i h; rw [hxh.out] at h; cases h)) (by intro _; first | exact hp0.out | (rename_i h; rw [hph.out] at h; cases h)))
        go_upto_region 15 with (fail)
        go_region
        all_goals (go_wp2_with fail)
        all_goals (refine bodyPost_ret (by simp [results, Try.results59, go_sem]; try rfl) rfl ?_)
        all_goals (refine FindOut.at_end _ _ _ _ hfe.out (by unfold hE; omega) (by unfold pS; rw [hxh.out]; simp only [if_true, if_false, reduceCtorEq, Bool.false_eq_true]; unfold hE; omega) (by have := hlh.out; unfold padQ; rw [hph.out]; simp only [if_true, if_false, reduceCtorEq, Bool.false_eq_true]; omega) (by simp) (by go_grown))
    · have hph := Lib.hid (show isPd l = false by simpa using hp)
      have a32 : bits BinOp.and .u8 (bt l 0 : Int) 32 = 0 := by rw [and32 _ hbt]; unfold isPd at hp; rw [decide_eq_true_eq] at hp; rw [show bt l 0 / 32 % 2 = 0 by omega]; rfl
      clear hp
      have hfe := Lib.hid (fit_end (l := l) (by have := hlh.out; omega) (by intro _; first | exact hx4.out | (rename_i h; rw [hxh.out] at h; cases h)) (by intro _; first | exact hp0.out | (rename_i h; rw [hph.out] at h; cases h)))
      go_upto_region 15 with (fail)
      go_region
      all_goals (go_wp2_with fail)
      all_goals (refine bodyPost_ret (by simp [results, Try.results59, go_sem]; try rfl) rfl ?_)
      all_goals (refine FindOut.at_end _ _ _ _ hfe.out (by unfold hE; omega) (by unfold pS; rw [hxh.out]; simp only [if_true, if_false, reduceCtorEq, Bool.false_eq_true]; unfold hE; omega) (by have := hlh.out; unfold padQ; rw [hph.out]; simp only [if_true, if_false, reduceCtorEq, Bool.false_eq_true]; omega) (by simp) (by go_grown))
  · have hxh := Lib.hid (show isX l = false by simpa using hx)
    have a16 : bits BinOp.and .u8 (bt l 0 : Int) 16 = 0 := by rw [and16 _ hbt]; unfold isX at hx; rw [decide_eq_true_eq] at hx; rw [show bt l 0 / 16 % 2 = 0 by omega]; rfl
    clear hx hr2 hr3
    by_cases hp : isPd l = true
    · have hph := Lib.hid hp
      have a32 : bits BinOp.and .u8 (bt l 0 : Int) 32 = 32 := by rw [and32 _ hbt]; unfold isPd at hp; rw [decide_eq_true_eq] at hp; rw [hp]; rfl
      clear hp
      by_cases hz : padB l = 0
      · have hf := Lib.hid (fit_pad hph.out hz)
        rw [hz] at cL
        clear hz
        go_wp2_with fail
        refine bodyPost_ret (by simp [results, Try.results59, go_sem]; try rfl) rfl ?_
        exact FindOut.no hf.out _ _ _ (by go_grown)
      · have hp0 := Lib.hid (show padB l ≠ 0 from hz)
        have gz : ((padB l : Int) == 0) = false := by simp; omega
        clear hz
        have hfe := Lib.hid (fit_end (l := l) (by have := hlh.out; omega) (by intro _; first | exact hx4.out | (rename_i h; rw [hxh.out] at h; cases h)) (by intro _; first | exact hp0.out | (rename_i h; rw [hph.out] at h; cases h)))
        go_upto_region 15 with (fail)
        go_region
        all_goals (go_wp2_with fail)
        all_goals (refine bodyPost_ret (by simp [results, Try.results59, go_sem]; try rfl) rfl ?_)
        all_goals (refine FindOut.at_end _ _ _ _ hfe.out (by unfold hE; omega) (by unfold pS; rw [hxh.out]; simp only [if_true, if_false, reduceCtorEq, Bool.false_eq_true]; unfold hE; omega) (by have := hlh.out; unfold padQ; rw [hph.out]; simp only [if_true, if_false, reduceCtorEq, Bool.false_eq_true]; omega) (by simp) (by go_grown))
    · have hph := Lib.hid (show isPd l = false by simpa using hp)
      have a32 : bits BinOp.and .u8 (bt l 0 : Int) 32 = 0 := by rw [and32 _ hbt]; unfold isPd at hp; rw [decide_eq_true_eq] at hp; rw [show bt l 0 / 32 % 2 = 0 by omega]; rfl
      clear hp
      have hfe := Lib.hid (fit_end (l := l) (by have := hlh.out; omega) (by intro _; first | exact hx4.out | (rename_i h; rw [hxh.out] at h; cases h)) (by intro _; first | exact hp0.out | (rename_i h; rw [hph.out] at h; cases h)))
      go_upto_region 15 with (fail)
      go_region
      all_goals (go_wp2_with fail)
      all_goals (refine bodyPost_ret (by simp [results, Try.results59, go_sem]; try rfl) rfl ?_)
      all_goals (refine FindOut.at_end _ _ _ _ hfe.out (by unfold hE; omega) (by unfold pS; rw [hxh.out]; simp only [if_true, if_false, reduceCtorEq, Bool.false_eq_true]; unfold hE; omega) (by have := hlh.out; unfold padQ; rw [hph.out]; simp only [if_true, if_false, reduceCtorEq, Bool.false_eq_true]; omega) (by simp) (by go_grown))
end Go.Proofs.Ytpcdmcaojgpfoaa
