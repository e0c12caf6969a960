/- Contract: octet.Put. -/
import Derived.Test.YtpcdmcaojgpfoaaCLonger
import Derived.Test.YtpcdmcaojgpfoaaCSized
namespace Go.Proofs.Ytpcdmcaojgpfoaa
open Go.RowKit
set_option linter.unusedVariables false
set_option linter.unusedSimpArgs false
set_option maxRecDepth 20000

theorem put_no (A : Option Addr) (n c : Nat) (l : List UInt8) (w : World) (h : R8 w w.heap.size A n c l) (hn : n ≤ 140737488355328) (x k : Int) (hs' : szB k = false) :
    Calls Try.prog 57 #[.slice A n c, .int .u64 x, .int .i64 k] w (New8 w l) := by
  go_enter Try.func57, Try.ntmps57
  go_wp2_with (first | (go_at_call 73; refine (sized_any _ _).mono ?_; rintro e w' ⟨rfl, rfl⟩) | (go_at_call 67; refine (longer_zero _ _ _ _ _ h (by omega)).mono ?_; rintro e w' ⟨g, m, rfl, hm, hg, hgb, hb⟩))
  go_ret
  exact ⟨_, _, rfl, hm, hg, hgb, hb⟩
/-- The row behind q rounds of Put. -/
def putRow (l : List UInt8) (x k q : Nat) : List UInt8 := l ++ List.replicate (k - q) 0 ++ be x q
def putCells (l : List UInt8) (x k q : Nat) : Array Value := ((putRow l x k q).map bv).toArray
theorem putRow_zero (l : List UInt8) (x k : Nat) : putRow l x k 0 = l ++ List.replicate k 0 := by simp [putRow, be]
theorem putRow_all (l : List UInt8) (x k : Nat) : putRow l x k k = l ++ be x k := by simp [putRow]
theorem putCells_step (l : List UInt8) (x k q : Nat) (hq : q < k) :
    (putCells l x k q).setIfInBounds (l.length + k - 1 - q) (bv (UInt8.ofNat (x / 256 ^ q))) = putCells l x k (q + 1) := by
  have e : putRow l x k q = (l ++ List.replicate (k - (q + 1)) 0) ++ 0 :: be x q := by
    unfold putRow
    rw [show k - q = (k - (q + 1)) + 1 by omega, List.replicate_succ']
    simp
  have e2 : putRow l x k (q + 1) = (l ++ List.replicate (k - (q + 1)) 0) ++ UInt8.ofNat (x / 256 ^ q) :: be x q := by
    unfold putRow
    rw [be_head]
  unfold putCells
  rw [e, e2]
  have hl : ((l ++ List.replicate (k - (q + 1)) (0 : UInt8)).map bv).length = l.length + k - 1 - q := by simp; omega
  rw [← hl, List.map_append, List.map_append]
  simp [List.setIfInBounds_toArray]
theorem putCells_size (l : List UInt8) (x k q : Nat) (hq : q ≤ k) : (putCells l x k q).size = l.length + k := by
  simp [putCells, putRow, be_len]; omega
/-- Put, where size is right. -/
theorem put_yes (A : Option Addr) (n c : Nat) (l : List UInt8) (w : World) (h : R8 w w.heap.size A n c l) (hn : n ≤ 140737488355328) (x k : Nat) (hk : 1 ≤ k) (hk8 : k ≤ 8) (hx : x < 18446744073709551616) :
    Calls Try.prog 57 #[.slice A n c, .int .u64 x, .int .i64 k] w (New8 w (l ++ be x k)) := by
  have hs' : szB k = true := by simp [szB]; omega
  have hl := Lib.hid h.1
  go_enter Try.func57, Try.ntmps57
  go_wp2_with (first | (go_at_call 73; refine (sized_any _ _).mono ?_; rintro e w' ⟨rfl, rfl⟩) | (go_at_call 67; refine (longer_at _ _ _ _ _ _ h (by omega)).mono ?_; rintro e w' ⟨g, rfl, hm, hg, hgb, hb⟩))
  have hg0 : Blk w' g 5 (putCells l x k 0) := by unfold putCells; rw [putRow_zero]; exact hg
  clear hg
  go_loopw [1, 8] (fun y i wr => ∃ q : Nat, q ≤ k ∧ i = .int .i64 ((n : Int) + k - 1 - q) ∧ y = .int .u64 (x / 256 ^ q : Nat) ∧ Blk wr g 5 (putCells l x k q) ∧ Below w.heap.size w wr) (fun _ i _ => ((intOf i) - n + 1).toNat)
  case atStart => exact ⟨0, Nat.zero_le _, by simp, by simp, hg0, hb⟩
  case round =>
    obtain ⟨q, hq, rfl, rfl, hgr, hbr⟩ := hrel
    by_cases hlt : q < k
    · obtain ⟨v0, hv0⟩ : ∃ v, wr.cell? ⟨g, n + k - 1 - q, none⟩ = some v := by
        rw [hgr.cell]
        exact ⟨_, Array.getElem?_eq_getElem (by rw [putCells_size _ _ _ _ hq, hl.out]; omega)⟩
      have hf0 := hgr.frozen (n + k - 1 - q)
      have hst := Lib.hid (putCells_step l x k q hlt)
      go_wp2
      go_roundw
      case rel =>
        refine ⟨q + 1, by omega, by go_num, by rw [Nat.pow_succ, ← Nat.div_div_eq_div_mul]; rfl, ?_, hbr.setCell hgb _⟩
        have h1 := hgr.set_ (n + k - 1 - q) (bv (UInt8.ofNat (x / 256 ^ q)))
        have h2 := hst.out
        rw [hl.out] at h2
        rw [h2] at h1
        have e : bv (UInt8.ofNat (x / 256 ^ q)) = Value.int IntKind.u8 ((x : Int) / 256 ^ q % 256) := by
          simp [bv]
        rw [e] at h1
        exact h1
      case measure => simp [intOf]; omega
    · have hqk : q = k := by omega
      have hlen := Lib.hid (show Len (l ++ be x k) (n + k) by simp [Len, be_len, hl.out])
      have hrow : Blk wr g 5 ((l ++ be x k).map bv).toArray := by
        rw [hqk] at hgr
        unfold putCells at hgr
        rw [putRow_all] at hgr
        exact hgr
      clear hqk hgr
      go_wp2
      go_ret
      exact ⟨_, _, rfl, hlen.out, hrow, hgb, hbr⟩
section
variable (A : Option Addr) (n c : Nat) (l : List UInt8) (w : World)
theorem put_any (h : R8 w w.heap.size A n c l) (hn : n ≤ 140737488355328) (x : Nat) (k : Int) (hx : x < 18446744073709551616) :
    Calls Try.prog 57 #[.slice A n c, .int .u64 x, .int .i64 k] w (Out8 w (putL l x k)) := by
  by_cases hs : szB k = true
  · obtain ⟨b, rfl, h1, h8⟩ := sz_nat hs
    have e1 : putL l x b = l ++ be x b := by simp [putL, hs]
    rw [e1]
    exact (put_yes A n c l w h hn x b h1 h8 hx).mono fun _ _ h => h.out
  · have e1 : putL l x k = l := by simp [putL, hs]
    rw [e1]
    exact (put_no A n c l w h hn x k (by simpa using hs)).mono fun _ _ h => h.out
end
end Go.Proofs.Ytpcdmcaojgpfoaa
