/- Contracts: ext.known, fits, ends, putHead. -/
import Derived.Test.YtpcdmcaojgpfoaaExP
import Derived.Test.YtpcdmcaojgpfoaaCOctPut
import Derived.Test.YtpcdmcaojgpfoaaRegL
import Derived.BigQuiet
import Derived.Deep.QuietTactic
import Derived.Handy
namespace Go.Proofs.Ytpcdmcaojgpfoaa
open Go.RowKit
set_option linter.unusedVariables false
set_option linter.unusedSimpArgs false
set_option maxRecDepth 20000

theorem known_one (w : World) : Calls Try.prog 45 #[.int .u16 48862] w fun e w' => e = .returned (.bool true) ∧ w = w' := by
  go_enter Try.func45, Try.ntmps45
  go_wp2
  go_ret
  exact ⟨rfl, rfl⟩
theorem known_two (w : World) : Calls Try.prog 45 #[.int .u16 4096] w fun e w' => e = .returned (.bool true) ∧ w = w' := by
  go_enter Try.func45, Try.ntmps45
  go_wp2
  go_ret
  exact ⟨rfl, rfl⟩
theorem known_none (prof : Nat) (h : prof ≠ 48862 ∧ prof ≠ 4096) (w : World) : Calls Try.prog 45 #[.int .u16 (prof : Int)] w fun e w' => e = .returned (.bool false) ∧ w = w' := by
  have g1 : ((prof : Int) == 48862) = false := by simp; omega
  have g2 : ((prof : Int) == 4096) = false := by simp; omega
  clear h
  go_enter Try.func45, Try.ntmps45
  go_wp2
  go_ret
  exact ⟨rfl, rfl⟩
/-- May an element of that ID and so many bytes be? -/
def fitE (one : Bool) (id : Int) (n : Nat) : Bool := if one then decide (1 ≤ id) && (decide (id ≤ 14) && (decide (1 ≤ n) && decide (n ≤ 16))) else decide (1 ≤ id) && (decide (id ≤ 255) && decide (n ≤ 255))
theorem fit_bad (one : Bool) (e : El) : fitE one e.id e.d.length = !badE one e := by
  rw [Bool.eq_iff_iff]
  cases one <;> simp only [fitE, badE, Bool.not_eq_true', Bool.or_eq_false_iff, Bool.and_eq_true, Bool.and_eq_false_iff, decide_eq_true_eq, decide_eq_false_iff_not, if_true, Bool.false_eq_true, if_false, Bool.true_and, Bool.false_and, true_and] <;> omega
theorem retB {a b : Bool} (h : (a = true) ↔ (b = true)) : Ending.returned (Value.bool a) = Ending.returned (Value.bool b) := by
  rw [Bool.eq_iff_iff.2 h]
theorem fits_one (id : Int) (A : Option Addr) (n c : Nat) (w : World) : Calls Try.prog 46 #[.int .u16 48862, .agg #[.int .i64 id, .slice A n c]] w fun e w' => e = .returned (.bool (fitE true id n)) ∧ Below w.heap.size w w' := by
  have hb : Below w.heap.size w (w.alloc (.cells #[.int .i64 id, .slice A n c] 51)) := (Below.refl _ w).alloc (Nat.le_refl _) _
  go_enter Try.func46, Try.ntmps46
  go_wp2
  all_goals
    go_ret
    refine ⟨retB ?_, hb⟩
    simp [fitE]
    try omega
theorem fits_two (id : Int) (A : Option Addr) (n c : Nat) (w : World) : Calls Try.prog 46 #[.int .u16 4096, .agg #[.int .i64 id, .slice A n c]] w fun e w' => e = .returned (.bool (fitE false id n)) ∧ Below w.heap.size w w' := by
  have hb : Below w.heap.size w (w.alloc (.cells #[.int .i64 id, .slice A n c] 51)) := (Below.refl _ w).alloc (Nat.le_refl _) _
  go_enter Try.func46, Try.ntmps46
  go_wp2
  all_goals
    go_ret
    refine ⟨retB ?_, hb⟩
    simp [fitE]
    try omega
theorem andF (n : Nat) (h : n < 256) : bits BinOp.and .u8 (n : Int) 15 = ((n % 16 : Nat) : Int) := by
  have := (List.all_eq_true.1 (show ((List.range 256).all fun m => decide (bits BinOp.and .u8 (m : Int) 15 = ((m % 16 : Nat) : Int))) = true by kernel_rfl)) n (List.mem_range.2 h)
  simpa using this
theorem ends_two (c : Nat) (w : World) : Calls Try.prog 50 #[.int .u16 4096, .int .u8 (c : Int)] w fun e w' => e = .returned (.bool (endB false c)) ∧ w = w' := by
  go_enter Try.func50, Try.ntmps50
  go_wp2
  go_ret
  exact ⟨rfl, rfl⟩
theorem ends_one (c : Nat) (hc : c < 256) (w : World) : Calls Try.prog 50 #[.int .u16 48862, .int .u8 (c : Int)] w fun e w' => e = .returned (.bool (endB true c)) ∧ w = w' := by
  have ha := andF c hc
  go_enter Try.func50, Try.ntmps50
  go_wp2
  all_goals
    go_ret
    refine ⟨retB ?_, rfl⟩
    simp [endB]
    try omega
/-- putHead: the head's bytes behind b. -/
def hdB (one : Bool) (id : Int) (n : Nat) : List UInt8 := if one then [UInt8.ofNat (16 * id.toNat + n - 1)] else [UInt8.ofNat id.toNat, UInt8.ofNat n]
theorem elB_hd (one : Bool) (e : El) : elB one e = hdB one e.id e.d.length ++ e.d := by
  cases one <;> rfl
theorem be_one (x : Nat) : be x 1 = [UInt8.ofNat x] := by
  simp [be]
theorem or_head (id n : Nat) (h1 : 1 ≤ id ∧ id ≤ 14) (h2 : 1 ≤ n ∧ n ≤ 16) : bits BinOp.or .i64 ((id : Int) * 16) ((n : Int) - 1) = ((16 * id + n - 1 : Nat) : Int) := by
  have key : ((List.range 15).all fun i => (List.range 16).all fun m => decide (bits BinOp.or .i64 ((i : Int) * 16) (m : Int) = ((16 * i + m : Nat) : Int))) = true := by kernel_rfl
  have h := (List.all_eq_true.1 ((List.all_eq_true.1 key) id (List.mem_range.2 (by omega)))) (n - 1) (List.mem_range.2 (by omega))
  rw [decide_eq_true_eq] at h
  rw [show (n : Int) - 1 = ((n - 1 : Nat) : Int) by omega, h]
  omega
theorem head_one (A : Option Addr) (m c : Nat) (l : List UInt8) (id : Int) (B : Option Addr) (n k : Nat) (w : World) (h : R8 w w.heap.size A m c l) (hm : m ≤ 1000000) (hf : fitE true id n = true) :
    Calls Try.prog 48 #[.slice A m c, .int .u16 48862, .agg #[.int .i64 id, .slice B n k]] w (Out8 w (l ++ hdB true id n)) := by
  have h2 : 1 ≤ id ∧ id ≤ 14 ∧ 1 ≤ n ∧ n ≤ 16 := by simp [fitE] at hf; omega
  obtain ⟨i, rfl⟩ : ∃ i : Nat, id = i := ⟨id.toNat, by omega⟩
  have ho := or_head i n (by omega) (by omega)
  have hb : Below w.heap.size w (w.alloc (.cells #[.int .i64 (i : Int), .slice B n k] 51)) := (Below.refl _ w).alloc (Nat.le_refl _) _
  have hp := put_yes A m c l _ (h.on hb) (by omega) (16 * i + n - 1) 1 (by omega) (by omega) (by omega)
  rw [be_one] at hp
  have e : hdB true (i : Int) n = [UInt8.ofNat (16 * i + n - 1)] := by simp [hdB]
  rw [e]
  generalize [UInt8.ofNat (16 * i + n - 1)] = X at hp ⊢
  clear hf e
  go_enter Try.func48, Try.ntmps48
  go_wp2_with fail
  refine hp.mono ?_
  rintro e w' ⟨g, m2, rfl, hm2, hg, hgb, hb2⟩
  go_wp2_with fail
  go_ret
  exact ⟨_, _, _, rfl, hg.r8 hm2 (Nat.le_refl _), hb.trans (hb2.mono hb.size)⟩
theorem head_two (A : Option Addr) (m c : Nat) (l : List UInt8) (id : Int) (B : Option Addr) (n k : Nat) (w : World) (h : R8 w w.heap.size A m c l) (hm : m ≤ 1000000) (hf : fitE false id n = true) :
    Calls Try.prog 48 #[.slice A m c, .int .u16 4096, .agg #[.int .i64 id, .slice B n k]] w (Out8 w (l ++ hdB false id n)) := by
  have h2 : 1 ≤ id ∧ id ≤ 255 ∧ n ≤ 255 := by simp [fitE] at hf; omega
  obtain ⟨i, rfl⟩ : ∃ i : Nat, id = i := ⟨id.toNat, by omega⟩
  have hb : Below w.heap.size w (w.alloc (.cells #[.int .i64 (i : Int), .slice B n k] 51)) := (Below.refl _ w).alloc (Nat.le_refl _) _
  have hp := put_yes A m c l _ (h.on hb) (by omega) i 1 (by omega) (by omega) (by omega)
  rw [be_one] at hp
  have hml := h.1
  have e : hdB false (i : Int) n = [UInt8.ofNat i] ++ [UInt8.ofNat n] := by simp [hdB]
  rw [e, ← List.append_assoc]
  have hl2 : (l ++ [UInt8.ofNat i]).length = m + 1 := by simp [hml]
  generalize [UInt8.ofNat i] = X at hp hl2 ⊢
  have hq := fun (g m2 : Nat) W (hr : R8 W W.heap.size (some ⟨g, 0, none⟩) m2 m2 (l ++ X)) => put_yes (some ⟨g, 0, none⟩) m2 m2 (l ++ X) W hr (by have := hr.1; omega) n 1 (by omega) (by omega) (by omega)
  rw [be_one] at hq
  generalize [UInt8.ofNat n] = Y at hq ⊢
  generalize l ++ X = L at hp hq hl2 ⊢
  have c1 : (w.alloc (.cells #[.int .i64 (i : Int), .slice B n k] 51)).cell? ⟨w.heap.size, 1, none⟩ = some (.slice B n k) := by simp
  have hblt : w.heap.size < (w.alloc (.cells #[.int .i64 (i : Int), .slice B n k] 51)).heap.size := by simp
  clear hf e hml
  go_enter Try.func48, Try.ntmps48
  go_wp2_with fail
  refine hp.mono ?_
  rintro e w1 ⟨g, m2, rfl, hm2, hg, hgb, hb2⟩
  have c1 := (hb2.cell (p := ⟨w.heap.size, 1, none⟩) hblt).trans c1
  have hb3 := hb.trans (hb2.mono hb.size)
  have hr2 := hg.r8 hm2 (Nat.le_refl _)
  have hq := hq g m2 w1 hr2
  clear hp hb hblt hb2 hg hgb hm2
  go_wp2_with fail
  refine hq.mono ?_
  rintro e w2 ⟨g2, m3, rfl, hm3, hg3, hgb3, hb4⟩
  go_wp2_with fail
  go_ret
  exact ⟨_, _, _, rfl, hg3.r8 hm3 (Nat.le_refl _), hb3.trans (hb4.mono hb3.size)⟩
end Go.Proofs.Ytpcdmcaojgpfoaa
