/- Contracts of the project's bound: Rate. -/
import Derived.Test.YtibgiahbgfjcnaaBdS
namespace Go.Proofs.Ytibgiahbgfjcnaa
open Go.RowKit
set_option linter.unusedVariables false
set_option linter.unusedSimpArgs false
set_option maxRecDepth 20000

theorem foldR_mem {t : Ln} : ∀ (l : List Ln) (n : Nat), t ∈ l → l.foldl (fun n (t : Ln) => min n t.r) n ≤ t.r
  | x :: r, n, h => by
    rw [List.foldl_cons]
    rcases List.mem_cons.1 h with rfl | h
    · have := foldR_le r (min n t.r)
      omega
    · exact foldR_mem r _ h
theorem foldR_ge {k : Nat} : ∀ (l : List Ln) (n : Nat), k ≤ n → (∀ t ∈ l, k ≤ t.r) → k ≤ l.foldl (fun n (t : Ln) => min n t.r) n
  | [], n, h, _ => h
  | x :: r, n, h, ha => by
    rw [List.foldl_cons]
    exact foldR_ge r _ (by have := ha x List.mem_cons_self; omega) fun t ht => ha t (List.mem_cons_of_mem _ ht)
theorem minR_least {l : List Ln} {a : Ln} (h : IsLeast l a) (ha : a.In) : minR l = a.r := by
  have h1 := foldR_mem l 18446744073709551615 h.1
  have h2 := foldR_ge l 18446744073709551615 (k := a.r) (by have := ha.r; omega) fun t ht => by
    have := h.2 t ht
    unfold fstL at this
    omega
  unfold minR
  omega
theorem rate_ls {ls : List Ln} {sm : Bool} {a : Ln} (h : LsS ls sm a) (ha : a.In) : Value.tuple #[.int .u64 (a.r : Int), .bool sm] = rateV ls := by
  cases sm
  · have h : ls = [] ∧ a = ⟨0, 0, 0⟩ := h
    rw [rateV_no (by rw [h.1]; rfl), h.2]
    rfl
  · have h : IsLeast ls a := h
    rw [rateV_yes (by intro h0; rw [List.eq_nil_of_length_eq_zero h0] at h; cases h.1), minR_least h ha]
theorem bd_rate {A : Option Addr} {n c : Nat} {l : List Tup} {w : World} (h : RT w w.heap.size A n c l) (hn : n ≤ 100000) :
    Calls Try.prog 30 #[.slice A n c] w (AnsB (rateV (heldR l)) w) := by
  have HC := Lib.hid (bd_first A n c l w h (by omega))
  clear h
  go_enter Try.func30, Try.ntmps30
  go_wp2_with fail
  ((with_reducible refine HC.out.mono ?_); rintro e W1 ⟨⟨bo, br, bv, sm, h1, h2, rfl⟩, b1⟩)
  have HV := Lib.hid (rate_ls h1 h2)
  have HB := Lib.hid (b1.trans ((belowA W1 (.cells #[.int .u32 (bo : Int), .int .u64 (br : Int), .int .i64 (bv : Int)] 31)).mono b1.size))
  clear h1 h2 b1 HC
  go_wp2_with fail
  go_ret2
  exact ⟨by rw [← HV.out]; rfl, HB.out⟩
end Go.Proofs.Ytibgiahbgfjcnaa
