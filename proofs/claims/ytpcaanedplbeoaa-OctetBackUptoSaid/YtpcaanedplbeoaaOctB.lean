/- Contracts of octet.Put and octet.Get: the loops. -/
import Derived.Test.YtpcaanedplbeoaaOctA
import Derived.IntWalk
namespace Go.Proofs.Ytpcaanedplbeoaa
open Go.RowKit
set_option linter.unusedVariables false
set_option linter.unusedSimpArgs false

/-- Get, where size is right and the place is there. -/
theorem get_yes (A : Option Addr) (n c : Nat) (l : List UInt8) (w : World) (h : R8 w w.heap.size A n c l) (hn : n ≤ 140737488355328) (i k : Nat) (hk : 1 ≤ k) (hk8 : k ≤ 8) (ht : i + k ≤ n) :
    Calls Try.prog 12 #[.slice A n c, .int .i64 i, .int .i64 k] w fun e w' => e = .returned (.tuple #[.int .u64 (num ((l.drop i).take k)), .bool true]) ∧ w = w' := by
  have hc := h.2.1
  have hi : I64 i := by unfold I64; omega
  have ht' : thB n i k = true := by simp [thB]; omega
  have hs' : szB k = true := by simp [szB]; omega
  have hcut := fun W => run_cut (P := Try.prog) 22 5 Try.underlying22 u8_size A n c .i64 .i64 i (i + k) (by omega) (by omega) (by omega) W
  have hr := h.cut i (i + k) (by omega) ht
  have e1 : i + k - i = k := by omega
  have e2 : ((i : Int) + (k : Int)).toNat = i + k := by omega
  simp only [e1, e2, Int.toNat_natCast] at hcut hr
  clear e1 e2
  obtain ⟨L, hL⟩ : ∃ L, L = (l.drop i).take k := ⟨_, rfl⟩
  rw [← hL] at hr ⊢
  clear hL
  obtain ⟨b, off, hA, hb, hcell⟩ := hr.2.2 (by omega)
  rw [hA] at hcut
  have hLk := Lib.hid hr.1
  clear hA hr
  go_enter Try.func12, Try.ntmps12
  go_wp2_with (first | (go_at_call 19; refine (sized_any _ _).mono ?_; rintro e w' ⟨rfl, rfl⟩) | (go_at_call 21; refine (there_any _ _ _ _ _ _ hi (by omega)).mono ?_; rintro e w' ⟨rfl, rfl⟩))
  go_loop [8, 10, 28] (fun x y j => ∃ q : Nat, q ≤ k ∧ j = .int .i64 q ∧ x = .int .u64 (num (L.take q) : Nat)) (fun _ _ j => k - (intOf j).toNat)
  case atStart => exact ⟨0, Nat.zero_le _, rfl, by simp [num]⟩
  case round =>
    obtain ⟨q, hq, rfl, rfl⟩ := hrel
    by_cases hlt : q < k
    · have hcq := hcell q hlt
      have hnt := num_take_lt L q (by omega)
      have hst := Lib.hid (num_step L q (by rw [hLk.out]; exact hlt) (by omega))
      go_wp2
      go_round
      case rel => exact ⟨q + 1, by omega, by go_num, by rw [hst.out]⟩
      case measure => simp [intOf]; omega
    · have hqk : q = k := by omega
      have hT := Lib.hid (show L.take q = L by rw [List.take_of_length_le]; rw [hLk.out]; omega)
      clear hqk
      go_wp2
      go_ret2
      exact ⟨by rw [hT.out]; rfl, rfl⟩

theorem get_no (A : Option Addr) (n c : Nat) (w : World) (hn : n ≤ 140737488355328) (i k : Int) (hi : I64 i) (ht : szB k = false ∨ thB n i k = false) :
    Calls Try.prog 12 #[.slice A n c, .int .i64 i, .int .i64 k] w fun e w' => e = .returned (.tuple #[.int .u64 0, .bool false]) ∧ w = w' := by
  by_cases hs : szB k = true
  · have ht' : thB n i k = false := ht.resolve_left (by simp [hs])
    clear ht
    go_enter Try.func12, Try.ntmps12
    go_wp2_with (first | (go_at_call 19; refine (sized_any _ _).mono ?_; rintro e w' ⟨rfl, rfl⟩) | (go_at_call 21; refine (there_any _ _ _ _ _ _ hi (by omega)).mono ?_; rintro e w' ⟨rfl, rfl⟩))
    go_ret2
    exact ⟨rfl, rfl⟩
  · have hs' : szB k = false := by simpa using hs
    clear hs ht
    go_enter Try.func12, Try.ntmps12
    go_wp2_with (first | (go_at_call 19; refine (sized_any _ _).mono ?_; rintro e w' ⟨rfl, rfl⟩))
    go_ret2
    exact ⟨rfl, rfl⟩

theorem put_no (A : Option Addr) (n c : Nat) (l : List UInt8) (w : World) (h : R8 w w.heap.size A n c l) (hn : n ≤ 140737488355328) (x k : Int) (hs' : szB k = false) :
    Calls Try.prog 11 #[.slice A n c, .int .u64 x, .int .i64 k] w (New8 w l) := by
  go_enter Try.func11, Try.ntmps11
  go_wp2_with (first | (go_at_call 19; refine (sized_any _ _).mono ?_; rintro e w' ⟨rfl, rfl⟩) | (go_at_call 20; refine (longer_zero _ _ _ _ _ h (by omega)).mono ?_; rintro e w' ⟨g, m, rfl, hm, hg, hgb, hb⟩))
  go_ret
  exact ⟨_, _, rfl, hm, hg, hgb, hb⟩

/-- The row behind q rounds of Put. -/
def putRow (l : List UInt8) (x k q : Nat) : List UInt8 := l ++ List.replicate (k - q) 0 ++ be x q
def putCells (l : List UInt8) (x k q : Nat) : Array Value := ((putRow l x k q).map bv).toArray
theorem putRow_zero (l : List UInt8) (x k : Nat) : putRow l x k 0 = l ++ List.replicate k 0 := by simp [putRow, be]
theorem putRow_all (l : List UInt8) (x k : Nat) : putRow l x k k = l ++ be x k := by simp [putRow]
theorem putCells_step (l : List UInt8) (x k q : Nat) (hq : q < k) :
    (putCells l x k q).setIfInBounds (l.length + k - 1 - q) (bv (UInt8.ofNat (x / 256 ^ q))) = putCells l x k (q + 1) := by
  have e : putRow l x k q = (l ++ List.replicate (k - (q + 1)) 0) ++ 0 :: be x q := by
    unfold putRow
    rw [show k - q = (k - (q + 1)) + 1 by omega, List.replicate_succ']
    simp
  have e2 : putRow l x k (q + 1) = (l ++ List.replicate (k - (q + 1)) 0) ++ UInt8.ofNat (x / 256 ^ q) :: be x q := by
    unfold putRow
    rw [be_head]
  unfold putCells
  rw [e, e2]
  have hl : ((l ++ List.replicate (k - (q + 1)) (0 : UInt8)).map bv).length = l.length + k - 1 - q := by simp; omega
  rw [← hl, List.map_append, List.map_append]
  simp [List.setIfInBounds_toArray]
theorem putCells_size (l : List UInt8) (x k q : Nat) (hq : q ≤ k) : (putCells l x k q).size = l.length + k := by
  simp [putCells, putRow, be_len]; omega

/-- Put, where size is right. -/
theorem put_yes (A : Option Addr) (n c : Nat) (l : List UInt8) (w : World) (h : R8 w w.heap.size A n c l) (hn : n ≤ 140737488355328) (x k : Nat) (hk : 1 ≤ k) (hk8 : k ≤ 8) (hx : x < 18446744073709551616) :
    Calls Try.prog 11 #[.slice A n c, .int .u64 x, .int .i64 k] w (New8 w (l ++ be x k)) := by
  have hs' : szB k = true := by simp [szB]; omega
  have hl := Lib.hid h.1
  go_enter Try.func11, Try.ntmps11
  go_wp2_with (first | (go_at_call 19; refine (sized_any _ _).mono ?_; rintro e w' ⟨rfl, rfl⟩) | (go_at_call 20; refine (longer_at _ _ _ _ _ _ h (by omega)).mono ?_; rintro e w' ⟨g, rfl, hm, hg, hgb, hb⟩))
  have hg0 : Blk w' g 5 (putCells l x k 0) := by unfold putCells; rw [putRow_zero]; exact hg
  clear hg
  go_loopw [1, 8] (fun y i wr => ∃ q : Nat, q ≤ k ∧ i = .int .i64 ((n : Int) + k - 1 - q) ∧ y = .int .u64 (x / 256 ^ q : Nat) ∧ Blk wr g 5 (putCells l x k q) ∧ Below w.heap.size w wr) (fun _ i _ => ((intOf i) - n + 1).toNat)
  case atStart => exact ⟨0, Nat.zero_le _, by simp, by simp, hg0, hb⟩
  case round =>
    obtain ⟨q, hq, rfl, rfl, hgr, hbr⟩ := hrel
    by_cases hlt : q < k
    · obtain ⟨v0, hv0⟩ : ∃ v, wr.cell? ⟨g, n + k - 1 - q, none⟩ = some v := by
        rw [hgr.cell]
        exact ⟨_, Array.getElem?_eq_getElem (by rw [putCells_size _ _ _ _ hq, hl.out]; omega)⟩
      have hf0 := hgr.frozen (n + k - 1 - q)
      have hst := Lib.hid (putCells_step l x k q hlt)
      go_wp2
      go_roundw
      case rel =>
        refine ⟨q + 1, by omega, by go_num, by rw [Nat.pow_succ, ← Nat.div_div_eq_div_mul]; rfl, ?_, hbr.setCell hgb _⟩
        have h1 := hgr.set_ (n + k - 1 - q) (bv (UInt8.ofNat (x / 256 ^ q)))
        have h2 := hst.out
        rw [hl.out] at h2
        rw [h2] at h1
        have e : bv (UInt8.ofNat (x / 256 ^ q)) = Value.int IntKind.u8 ((x : Int) / 256 ^ q % 256) := by
          simp [bv]
        rw [e] at h1
        exact h1
      case measure => simp [intOf]; omega
    · have hqk : q = k := by omega
      have hlen := Lib.hid (show Len (l ++ be x k) (n + k) by simp [Len, be_len, hl.out])
      have hrow : Blk wr g 5 ((l ++ be x k).map bv).toArray := by
        rw [hqk] at hgr
        unfold putCells at hgr
        rw [putRow_all] at hgr
        exact hgr
      clear hqk hgr
      go_wp2
      go_ret
      exact ⟨_, _, rfl, hlen.out, hrow, hgb, hbr⟩
end Go.Proofs.Ytpcaanedplbeoaa
