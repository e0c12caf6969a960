/- Contracts of limelightref8: in, has, field. -/
import Derived.Test.YtgjncaobcgjefaaCtU
import Derived.Test.YtgjncaobcgjefaaCtS
import Derived.Test.YtgjncaobcgjefaaCRefPut
namespace Go.Proofs.Ytgjncaobcgjefaa
open Go.RowKit
set_option linter.unusedVariables false
set_option linter.unusedSimpArgs false
set_option maxRecDepth 20000

/-- Answers a value; the world is as it was. -/
def Still (v : Value) (w : World) (e : Ending) (w' : World) : Prop := e = .returned v ∧ w = w'
def inS8 (s : ByteArray) (b : UInt8) : Bool := s.data.toList.contains b
theorem inS8_yes {s : ByteArray} {b : UInt8} {q : Nat} (hq : q < s.size) (h : s[q]'hq = b) : inS8 s b = true := by
  unfold inS8
  rw [List.contains_iff_mem, ← h]
  exact Array.getElem_mem_toList hq
theorem inS8_no {s : ByteArray} {b : UInt8} (h : ∀ (j : Nat) (hj : j < s.size), s[j]'hj ≠ b) : inS8 s b = false := by
  rw [Bool.eq_false_iff]
  intro e
  unfold inS8 at e
  rw [List.contains_iff_mem] at e
  obtain ⟨j, hj, hjb⟩ := List.getElem_of_mem e
  exact h j hj hjb
theorem ref8_in (s : ByteArray) (b : UInt8) (x : Int) (hx : x = (b.toNat : Int)) (w : World) (hs : s.size ≤ 100) : Calls Try.prog 46 #[.string s, .int .u8 x] w (Still (.bool (inS8 s b)) w) := by
  subst hx
  go_enter Try.func46, Try.ntmps46
  go_wp2
  go_loop [5] (fun v => ∃ q : Nat, v = .int .i64 (q : Int) ∧ q ≤ s.size ∧ ∀ (j : Nat) (hj : j < s.size), j < q → s[j]'hj ≠ b) (fun v => s.size - (intOf v).toNat)
  case atStart => exact ⟨0, rfl, Nat.zero_le _, fun j hj h => by omega⟩
  case round =>
    obtain ⟨q, rfl, hq, hn⟩ := hrel
    by_cases hlt : q < s.size
    · by_cases hb : s[q]'hlt = b
      · have hbb : (((s[q]'hlt).toNat : Int) == (b.toNat : Int)) = true := by rw [hb]; simp
        have he := inS8_yes hlt hb
        clear hb hn
        go_wp2
        go_ret
        exact ⟨rfl, rfl⟩
      · have hbb : (((s[q]'hlt).toNat : Int) == (b.toNat : Int)) = false := by
          rw [beq_eq_false_iff_ne]
          intro e
          exact hb (UInt8.toNat_inj.1 (Int.ofNat.inj e))
        go_wp2
        go_round
        case rel =>
          refine ⟨q + 1, by go_num, by omega, fun j hj h => ?_⟩
          by_cases hjq : j = q
          · subst hjq
            exact hb
          · exact hn j hj (by omega)
        case measure => simp [intOf]; omega
    · go_wp2
      go_ret
      refine ⟨?_, rfl⟩
      rw [inS8_no fun j hj => hn j hj (by omega)]
      rfl
/-- The letters of what a kind has. -/
def hasS (k : Int) : ByteArray := if k = 1 then ⟨#[99]⟩ else if k = 3 then ⟨#[108]⟩ else if k = 4 then ⟨#[112, 104, 107]⟩ else if k = 5 then ⟨#[112]⟩ else if k = 6 then ⟨#[112, 104]⟩ else if k = 7 then ⟨#[112, 107]⟩ else if k = 8 ∨ k = 9 then ⟨#[121]⟩ else if k = 10 then ⟨#[101]⟩ else ⟨#[]⟩
theorem hasS_size (k : Int) : (hasS k).size ≤ 100 := by
  unfold hasS
  repeat' split
  all_goals decide
set_option maxHeartbeats 8000000 in
theorem ref8_has (k : Int) (h1 : 1 ≤ k) (h10 : k ≤ 10) (w : World) : Calls Try.prog 45 #[.int .i64 k] w (Ans (.string (hasS k)) w) := by
  have hb := fun o => below_alloc w o
  have hc : k = 1 ∨ k = 2 ∨ k = 3 ∨ k = 4 ∨ k = 5 ∨ k = 6 ∨ k = 7 ∨ k = 8 ∨ k = 9 ∨ k = 10 := by omega
  rcases hc with rfl | rfl | rfl | rfl | rfl | rfl | rfl | rfl | rfl | rfl
  all_goals
    clear h1 h10
    go_enter Try.func45, Try.ntmps45
    go_wp2
    go_ret
    exact ⟨rfl, hb _⟩
end Go.Proofs.Ytgjncaobcgjefaa
