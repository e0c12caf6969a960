/- Contract: limelightref1.Put. -/
import Derived.Test.YtgjncaobcgjefaaBase
namespace Go.Proofs.Ytgjncaobcgjefaa
open Go.RowKit
set_option linter.unusedVariables false
set_option linter.unusedSimpArgs false
set_option maxRecDepth 20000

theorem ref_put_no (A : Option Addr) (n c : Nat) (l : List UInt8) (w : World) (h : R8 w w.heap.size A n c l) (hn : n ≤ 140737488351232) (x k : Int) (hs' : szB k = false) :
    Calls Try.prog 49 #[.slice A n c, .int .u64 x, .int .i64 k] w (Out8 w l) := by
  have hs0 : k < 1 ∨ 8 < k := by simp [szB] at hs'; omega
  have hbb : ∀ W : World, ([] : List UInt8).length + n ≤ 140737488355328 := fun _ => by simp; omega
  rcases hs0 with h1 | h1
  all_goals
    go_enter Try.func49, Try.ntmps49
    go_wp2_with (at_builtin; with_reducible refine wpList_append8 rfl (.tmp 9) (.tmp 10) rfl rfl w.heap.size _ [] rfl (Own8.empty _ _ (Nat.le_refl _)) w.heap.size A n c l rfl (h.alloc (Nat.le_refl _) _) (hbb w) (by simp) ?_; intro v1 w1 ha1)
    go_ret
    exact ha1.1.out (ha1.below ((Below.refl _ _).alloc (Nat.le_refl _) _) (by simp) (Own8.empty _ _ (Nat.le_refl _)) (Nat.le_refl _))
/-- A row of its own, made behind w. -/
def OwnOut (w : World) (l : List UInt8) (e : Ending) (w' : World) : Prop := ∃ v, e = .returned v ∧ Own8 w' w.heap.size v l ∧ Below w.heap.size w w'
/-- ref.Put, where size is right. -/
theorem ref_put_own (A : Option Addr) (n c : Nat) (l : List UInt8) (w : World) (h : R8 w w.heap.size A n c l) (hn : n ≤ 140737488351232) (x k : Nat) (hk : 1 ≤ k) (hk8 : k ≤ 8) (hx : x < 18446744073709551616) :
    Calls Try.prog 49 #[.slice A n c, .int .u64 x, .int .i64 k] w (OwnOut w (l ++ be x k)) := by
  have hbb : ∀ W : World, ([] : List UInt8).length + n ≤ 140737488355328 := fun _ => by simp; omega
  have hl := Lib.hid h.1
  have g1 : decide ((k : Int) < 1) = false := by simp; omega
  have g2 : decide ((8 : Int) < (k : Int)) = false := by simp; omega
  go_enter Try.func49, Try.ntmps49
  go_wp2_with (at_builtin; with_reducible refine wpList_append8 rfl (.tmp 9) (.tmp 10) rfl rfl w.heap.size _ [] rfl (Own8.empty _ _ (Nat.le_refl _)) w.heap.size A n c l rfl (h.alloc (Nat.le_refl _) _) (hbb w) (by simp) ?_; intro v1 w1 ha1)
  have hb1 := ha1.below ((Below.refl _ _).alloc (Nat.le_refl _) _) (by simp) (Own8.empty _ _ (Nat.le_refl _)) (Nat.le_refl _)
  have ho1 := ha1.1
  clear ha1 h
  go_loopw [7, 8] (fun v i wr => ∃ q : Nat, q ≤ k ∧ i = .int .i64 ((k : Int) - 1 - q) ∧ Own8 wr w.heap.size v (l ++ be (x / 256 ^ (k - q)) q) ∧ Below w.heap.size w wr) (fun _ i _ => ((intOf i) + 1).toNat)
  case atStart => exact ⟨0, Nat.zero_le _, by simp, by simpa [be] using ho1, hb1⟩
  case round =>
    obtain ⟨q, hq, rfl, hor, hbr⟩ := hrel
    by_cases hlt : q < k
    · have hsz := hbr.size
      have hx8 := Lib.hid (show ((x : Int) / 2 ^ (8 * (k - 1 - q)) % 256) = (((UInt8.ofNat (x / 256 ^ (k - (q + 1)))).toNat : Nat) : Int) by
        have e : (2 : Nat) ^ (8 * (k - 1 - q)) = 256 ^ (k - (q + 1)) := by rw [Nat.pow_mul, show k - (q + 1) = k - 1 - q by omega]
        simp [← e])
      have hlb := Lib.hid (show (l ++ be (x / 256 ^ (k - q)) q).length + 1 ≤ 140737488355328 by simp [be_len, hl.out]; omega)
      have hrow := Lib.hid (show (l ++ be (x / 256 ^ (k - q)) q) ++ [UInt8.ofNat (x / 256 ^ (k - (q + 1)))] = l ++ be (x / 256 ^ (k - (q + 1))) (q + 1) by
        rw [be, Nat.div_div_eq_div_mul, ← Nat.pow_succ, show (k - (q + 1)).succ = k - q by omega, List.append_assoc])
      go_wp2_with (at_builtin; with_reducible refine wpList_append8 rfl (.tmp 25) (.tmp 32) rfl rfl w.heap.size _ _ rfl (hor.alloc _) (wr.heap.size + 1) _ 1 1 [UInt8.ofNat (x / 256 ^ (k - (q + 1)))] rfl (one_r8 _ _ _ hx8.out) hlb.out (le_alloc hsz _) ?_; intro v2 w2 ha2)
      have hb2 := ha2.below (hbr.alloc hsz _) (le_alloc hsz _) (hor.alloc _) (Nat.le_refl _)
      go_roundw
      case rel =>
        refine ⟨q + 1, by omega, by go_num, ?_, hb2⟩
        rw [← hrow.out]
        exact ha2.1
      case measure => simp [intOf]; omega
    · have hqk : q = k := by omega
      rw [hqk, Nat.sub_self, Nat.pow_zero, Nat.div_one] at hor
      go_wp2
      go_ret
      exact ⟨_, rfl, hor, hbr⟩
theorem ref_put_yes (A : Option Addr) (n c : Nat) (l : List UInt8) (w : World) (h : R8 w w.heap.size A n c l) (hn : n ≤ 140737488351232) (x k : Nat) (hk : 1 ≤ k) (hk8 : k ≤ 8) (hx : x < 18446744073709551616) :
    Calls Try.prog 49 #[.slice A n c, .int .u64 x, .int .i64 k] w (Out8 w (l ++ be x k)) := by
  refine (ref_put_own A n c l w h hn x k hk hk8 hx).mono ?_
  rintro e w' ⟨v, rfl, ho, hb⟩
  exact ho.out hb
section
variable (A : Option Addr) (n c : Nat) (l : List UInt8) (w : World)
theorem ref_put_any (h : R8 w w.heap.size A n c l) (hn : n ≤ 140737488351232) (x : Nat) (k : Int) (hx : x < 18446744073709551616) :
    Calls Try.prog 49 #[.slice A n c, .int .u64 x, .int .i64 k] w (Out8 w (putL l x k)) := by
  by_cases hs : szB k = true
  · obtain ⟨b, rfl, h1, h8⟩ := sz_nat hs
    have e1 : putL l x b = l ++ be x b := by simp [putL, hs]
    rw [e1]
    exact ref_put_yes A n c l w h hn x b h1 h8 hx
  · have e1 : putL l x k = l := by simp [putL, hs]
    rw [e1]
    exact ref_put_no A n c l w h hn x k (by simpa using hs)
end
end Go.Proofs.Ytgjncaobcgjefaa
