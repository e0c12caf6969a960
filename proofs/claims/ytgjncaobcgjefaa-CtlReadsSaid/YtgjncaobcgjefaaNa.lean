/- Contract: octet.there. Contract: octet.longer. Contract: octet.Cut. Contract: octet.sized. Contract: octet.Get. Contract: octet.Put. -/
import Derived.Test.YtgjncaobcgjefaaBase
namespace Go.Proofs.Ytgjncaobcgjefaa
open Go.RowKit
set_option linter.unusedVariables false
set_option linter.unusedSimpArgs false
set_option maxRecDepth 20000

theorem there_any (A : Option Addr) (l c : Nat) (at' n : Int) (w : World) (ha : I64 at') (hl : l ≤ 281474976710656) :
    Calls Try.prog 39 #[.slice A l c, .int .i64 at', .int .i64 n] w fun e w' => e = .returned (.bool (thB l at' n)) ∧ w = w' := by
  have hw : wrap64 ((l : Int) - at') = (l : Int) - at' ∨ ¬ 0 ≤ at' := by
    by_cases h : 0 ≤ at'
    · left; exact wrap_i64 (by unfold I64 at *; omega)
    · exact Or.inr h
  by_cases h1 : 0 ≤ at'
  · have hw' := Lib.hid (hw.resolve_right (by omega)); clear hw
    by_cases h2 : 0 ≤ n
    · by_cases h3 : n ≤ (l : Int) - at'
      · have hs : thB l at' n = true := by simp [thB]; omega
        go_enter Try.func39, Try.ntmps39
        go_wp2
        all_goals go_ret
        all_goals simp [hs]
      · have hs : thB l at' n = false := by simp [thB]; omega
        go_enter Try.func39, Try.ntmps39
        go_wp2
        all_goals go_ret
        all_goals simp [hs, hw'.out]; omega
    · have hs : thB l at' n = false := by simp [thB]; omega
      go_enter Try.func39, Try.ntmps39
      go_wp2
      go_ret
      simp [hs]
  · clear hw
    have hs : thB l at' n = false := by simp [thB]; omega
    go_enter Try.func39, Try.ntmps39
    go_wp2
    go_ret
    simp [hs]
end Go.Proofs.Ytgjncaobcgjefaa
namespace Go.Proofs.Ytgjncaobcgjefaa
open Go.RowKit
set_option linter.unusedVariables false
set_option linter.unusedSimpArgs false
set_option maxRecDepth 20000

theorem longer_at (A : Option Addr) (n c k : Nat) (l : List UInt8) (w : World) (h : R8 w w.heap.size A n c l) (hn : n + k ≤ 281474976710656) :
    Calls Try.prog 38 #[.slice A n c, .int .i64 (k : Int)] w (NewAt w (n + k) (l ++ List.replicate k 0)) := by
  have hmk := fun W => run_make8 (n + k) hn W
  rw [show ((n + k : Nat) : Int) = (n : Int) + (k : Int) by omega] at hmk
  have hblk : ∀ W : World, (W.alloc (.cells (zl (n + k)).toArray 5)).heap[W.heap.size]? = some (.cells (zl (n + k)).toArray 5 (0, 0)) := fun W => Blk.new W 5 (zl (n + k)).toArray
  have HS := Lib.hid (fun (W : World) (hW : Below w.heap.size w W) => (h.below hW).src)
  have HL := Lib.hid (show (l.map bv).length = Nat.min n (n + k) by simp [h.1])
  have HF := Lib.hid (show 0 + (l.map bv).length ≤ (zl (n + k)).length by simp [h.1, zl])
  have HE := Lib.hid (show (l ++ List.replicate k (0 : UInt8)).length = n + k by simp [h.1])
  have HB := Lib.hid (show splice (zl (n + k)) 0 (l.map bv) = (l ++ List.replicate k (0 : UInt8)).map bv by
    simp [splice, zl, h.1])
  go_enter Try.func38, Try.ntmps38
  go_wp2_with (with_reducible refine wpList_copy_splice rfl (.tmp 11) (.tmp 12) 30 30 rfl 5 Try.underlying30 (by kernel_rfl) _ _ _ _ _ _ rfl rfl w.heap.size 0 (zl (n + k)) 5 (hblk _) (l.map bv) HL.out (fun hp => ⟨rfl, HS.out _ ((Below.refl _ _).alloc (Nat.le_refl _) _) hp⟩) HF.out (bv_one l) w.heap.size w ((Below.refl _ _).alloc (Nat.le_refl _) _) (Nat.le_refl _) ?_; intro w2 hg2 hb2)
  go_ret
  refine ⟨w.heap.size, rfl, HE.out, ?_, Nat.le_refl _, hb2⟩
  have := hg2.out
  rw [HB.out] at this
  exact this
theorem longer_any (A : Option Addr) (n c k : Nat) (l : List UInt8) (w : World) (h : R8 w w.heap.size A n c l) (hn : n + k ≤ 281474976710656) :
    Calls Try.prog 38 #[.slice A n c, .int .i64 (k : Int)] w (New8 w (l ++ List.replicate k 0)) :=
  (longer_at A n c k l w h hn).mono fun _ _ h => h.new
theorem longer_zero (A : Option Addr) (n c : Nat) (l : List UInt8) (w : World) (h : R8 w w.heap.size A n c l) (hn : n ≤ 281474976710656) :
    Calls Try.prog 38 #[.slice A n c, .int .i64 0] w (New8 w l) := by
  have := longer_any A n c 0 l w h (by omega)
  simpa using this
end Go.Proofs.Ytgjncaobcgjefaa
namespace Go.Proofs.Ytgjncaobcgjefaa
open Go.RowKit
set_option linter.unusedVariables false
set_option linter.unusedSimpArgs false
set_option maxRecDepth 20000

/-- Cut, where the place is there. -/
theorem cut_yes (A : Option Addr) (n c : Nat) (l : List UInt8) (w : World) (h : R8 w w.heap.size A n c l) (hn : n ≤ 140737488355328) (i k : Nat) (ht : i + k ≤ n) :
    Calls Try.prog 40 #[.slice A n c, .int .i64 i, .int .i64 k] w (Out8b w ((l.drop i).take k) true) := by
  have hc := h.2.1
  have hi : I64 i := by unfold I64; omega
  have ht' : thB n i k = true := by simp [thB]; omega
  have hcut := fun W => run_cut (P := Try.prog) 30 5 Try.underlying30 u8_size A n c .i64 .i64 i (i + k) (by omega) (by omega) (by omega) W
  have hr := h.cut i (i + k) (by omega) ht
  have e1 : i + k - i = k := by omega
  have e2 : ((i : Int) + (k : Int)).toNat = i + k := by omega
  simp only [e1, e2, Int.toNat_natCast] at hcut hr
  clear e1 e2
  go_enter Try.func40, Try.ntmps40
  go_wp2_with (first | (go_at_call 39; refine (there_any _ _ _ _ _ _ hi (by omega)).mono ?_; rintro e w' ⟨rfl, rfl⟩) | (go_at_call 38; refine (longer_zero _ _ _ _ _ hr (by omega)).mono ?_; rintro e w' ⟨g, m, rfl, hm, hg, hgb, hb⟩))
  go_ret2
  exact ⟨_, _, _, rfl, hg.r8 hm (Nat.le_refl _), hb⟩
theorem cut_no (A : Option Addr) (n c : Nat) (w : World) (hn : n ≤ 140737488355328) (i k : Int) (hi : I64 i) (ht : thB n i k = false) :
    Calls Try.prog 40 #[.slice A n c, .int .i64 i, .int .i64 k] w fun e w' => e = .returned (.tuple #[.slice none 0 0, .bool false]) ∧ w = w' := by
  go_enter Try.func40, Try.ntmps40
  go_wp2_with (first | (go_at_call 39; refine (there_any _ _ _ _ _ _ hi (by omega)).mono ?_; rintro e w' ⟨rfl, rfl⟩))
  go_ret2
  exact ⟨rfl, rfl⟩
section
variable (A : Option Addr) (n c : Nat) (l : List UInt8) (w : World)
theorem cut_any (h : R8 w w.heap.size A n c l) (hn : n ≤ 140737488355328) (i k : Int) (hi : I64 i) :
    Calls Try.prog 40 #[.slice A n c, .int .i64 i, .int .i64 k] w (Out8b w (cut8 l i k) (thB n i k)) := by
  have hl := h.1
  by_cases ht : thB n i k = true
  · obtain ⟨a, b, rfl, rfl, hab⟩ := th_nat ht
    have e1 : cut8 l a b = (l.drop a).take b := by simp [cut8, hl, ht]
    rw [e1, ht]
    exact cut_yes A n c l w h hn a b hab
  · have e1 : cut8 l i k = [] := by simp [cut8, hl, ht]
    have e2 : thB n i k = false := by simpa using ht
    rw [e1, e2]
    exact (cut_no A n c w hn i k hi e2).mono fun e w' ⟨he, hw⟩ => by subst he; subst hw; exact ⟨_, _, _, rfl, R8.nil _ _ _ _, Below.refl _ _⟩
end
end Go.Proofs.Ytgjncaobcgjefaa
namespace Go.Proofs.Ytgjncaobcgjefaa
open Go.RowKit
set_option linter.unusedVariables false
set_option linter.unusedSimpArgs false
set_option maxRecDepth 20000

theorem sized_any (n : Int) (w : World) :
    Calls Try.prog 37 #[.int .i64 n] w fun e w' => e = .returned (.bool (szB n)) ∧ w = w' := by
  by_cases h1 : 1 ≤ n
  · by_cases h2 : n ≤ 8
    · have hs : szB n = true := by simp [szB, h1, h2]
      go_enter Try.func37, Try.ntmps37
      go_wp2
      go_ret
      simp [hs]
    · have hs : szB n = false := by simp [szB]; omega
      go_enter Try.func37, Try.ntmps37
      go_wp2
      go_ret
      simp [hs]
  · have hs : szB n = false := by simp [szB]; omega
    go_enter Try.func37, Try.ntmps37
    go_wp2
    go_ret
    simp [hs]
end Go.Proofs.Ytgjncaobcgjefaa
namespace Go.Proofs.Ytgjncaobcgjefaa
open Go.RowKit
set_option linter.unusedVariables false
set_option linter.unusedSimpArgs false
set_option maxRecDepth 20000

/-- Get, where size is right and the place is there. -/
theorem get_yes (A : Option Addr) (n c : Nat) (l : List UInt8) (w : World) (h : R8 w w.heap.size A n c l) (hn : n ≤ 140737488355328) (i k : Nat) (hk : 1 ≤ k) (hk8 : k ≤ 8) (ht : i + k ≤ n) :
    Calls Try.prog 22 #[.slice A n c, .int .i64 i, .int .i64 k] w fun e w' => e = .returned (.tuple #[.int .u64 (num ((l.drop i).take k)), .bool true]) ∧ w = w' := by
  have hc := h.2.1
  have hi : I64 i := by unfold I64; omega
  have ht' : thB n i k = true := by simp [thB]; omega
  have hs' : szB k = true := by simp [szB]; omega
  have hcut := fun W => run_cut (P := Try.prog) 30 5 Try.underlying30 u8_size A n c .i64 .i64 i (i + k) (by omega) (by omega) (by omega) W
  have hr := h.cut i (i + k) (by omega) ht
  have e1 : i + k - i = k := by omega
  have e2 : ((i : Int) + (k : Int)).toNat = i + k := by omega
  simp only [e1, e2, Int.toNat_natCast] at hcut hr
  clear e1 e2
  obtain ⟨L, hL⟩ : ∃ L, L = (l.drop i).take k := ⟨_, rfl⟩
  rw [← hL] at hr ⊢
  clear hL
  obtain ⟨b, off, hA, hb, hcell⟩ := hr.2.2 (by omega)
  rw [hA] at hcut
  have hLk := Lib.hid hr.1
  clear hA hr
  go_enter Try.func22, Try.ntmps22
  go_wp2_with (first | (go_at_call 37; refine (sized_any _ _).mono ?_; rintro e w' ⟨rfl, rfl⟩) | (go_at_call 39; refine (there_any _ _ _ _ _ _ hi (by omega)).mono ?_; rintro e w' ⟨rfl, rfl⟩))
  go_loop [8, 10, 28] (fun x y j => ∃ q : Nat, q ≤ k ∧ j = .int .i64 q ∧ x = .int .u64 (num (L.take q) : Nat)) (fun _ _ j => k - (intOf j).toNat)
  case atStart => exact ⟨0, Nat.zero_le _, rfl, by simp [num]⟩
  case round =>
    obtain ⟨q, hq, rfl, rfl⟩ := hrel
    by_cases hlt : q < k
    · have hcq := hcell q hlt
      have hnt := num_take_lt L q (by omega)
      have hst := Lib.hid (num_step L q (by rw [hLk.out]; exact hlt) (by omega))
      go_wp2
      go_round
      case rel => exact ⟨q + 1, by omega, by go_num, by rw [hst.out]⟩
      case measure => simp [intOf]; omega
    · have hqk : q = k := by omega
      have hT := Lib.hid (show L.take q = L by rw [List.take_of_length_le]; rw [hLk.out]; omega)
      clear hqk
      go_wp2
      go_ret2
      exact ⟨by rw [hT.out]; rfl, rfl⟩
theorem get_no (A : Option Addr) (n c : Nat) (w : World) (hn : n ≤ 140737488355328) (i k : Int) (hi : I64 i) (ht : szB k = false ∨ thB n i k = false) :
    Calls Try.prog 22 #[.slice A n c, .int .i64 i, .int .i64 k] w fun e w' => e = .returned (.tuple #[.int .u64 0, .bool false]) ∧ w = w' := by
  by_cases hs : szB k = true
  · have ht' : thB n i k = false := ht.resolve_left (by simp [hs])
    clear ht
    go_enter Try.func22, Try.ntmps22
    go_wp2_with (first | (go_at_call 37; refine (sized_any _ _).mono ?_; rintro e w' ⟨rfl, rfl⟩) | (go_at_call 39; refine (there_any _ _ _ _ _ _ hi (by omega)).mono ?_; rintro e w' ⟨rfl, rfl⟩))
    go_ret2
    exact ⟨rfl, rfl⟩
  · have hs' : szB k = false := by simpa using hs
    clear hs ht
    go_enter Try.func22, Try.ntmps22
    go_wp2_with (first | (go_at_call 37; refine (sized_any _ _).mono ?_; rintro e w' ⟨rfl, rfl⟩))
    go_ret2
    exact ⟨rfl, rfl⟩
section
variable (A : Option Addr) (n c : Nat) (l : List UInt8) (w : World)
theorem get_any (h : R8 w w.heap.size A n c l) (hn : n ≤ 140737488355328) (i k : Int) (hi : I64 i) :
    Calls Try.prog 22 #[.slice A n c, .int .i64 i, .int .i64 k] w fun e w' => e = .returned (.tuple #[.int .u64 (getN l i k), .bool (getB n i k)]) ∧ w = w' := by
  have hl := h.1
  by_cases hs : szB k = true
  · by_cases ht : thB n i k = true
    · obtain ⟨b, rfl, h1, h8⟩ := sz_nat hs
      obtain ⟨a, b', rfl, hb', hab⟩ := th_nat ht
      have : b' = b := by omega
      subst this
      have e1 : getN l a b' = num ((l.drop a).take b') := by simp [getN, hs, hl, ht]
      have e2 : getB n a b' = true := by simp [getB, hs, ht]
      rw [e1, e2]
      exact get_yes A n c l w h hn a b' h1 h8 hab
    · have e1 : getN l i k = 0 := by simp [getN, hl, ht]
      have e2 : getB n i k = false := by simp [getB, ht]
      rw [e1, e2]
      exact get_no A n c w hn i k hi (.inr (by simpa using ht))
  · have e1 : getN l i k = 0 := by simp [getN, hs]
    have e2 : getB n i k = false := by simp [getB, hs]
    rw [e1, e2]
    exact get_no A n c w hn i k hi (.inl (by simpa using hs))
end
end Go.Proofs.Ytgjncaobcgjefaa
namespace Go.Proofs.Ytgjncaobcgjefaa
open Go.RowKit
set_option linter.unusedVariables false
set_option linter.unusedSimpArgs false
set_option maxRecDepth 20000

theorem put_no (A : Option Addr) (n c : Nat) (l : List UInt8) (w : World) (h : R8 w w.heap.size A n c l) (hn : n ≤ 140737488355328) (x k : Int) (hs' : szB k = false) :
    Calls Try.prog 21 #[.slice A n c, .int .u64 x, .int .i64 k] w (New8 w l) := by
  go_enter Try.func21, Try.ntmps21
  go_wp2_with (first | (go_at_call 37; refine (sized_any _ _).mono ?_; rintro e w' ⟨rfl, rfl⟩) | (go_at_call 38; refine (longer_zero _ _ _ _ _ h (by omega)).mono ?_; rintro e w' ⟨g, m, rfl, hm, hg, hgb, hb⟩))
  go_ret
  exact ⟨_, _, rfl, hm, hg, hgb, hb⟩
/-- The row behind q rounds of Put. -/
def putRow (l : List UInt8) (x k q : Nat) : List UInt8 := l ++ List.replicate (k - q) 0 ++ be x q
def putCells (l : List UInt8) (x k q : Nat) : Array Value := ((putRow l x k q).map bv).toArray
theorem putRow_zero (l : List UInt8) (x k : Nat) : putRow l x k 0 = l ++ List.replicate k 0 := by simp [putRow, be]
theorem putRow_all (l : List UInt8) (x k : Nat) : putRow l x k k = l ++ be x k := by simp [putRow]
theorem putCells_step (l : List UInt8) (x k q : Nat) (hq : q < k) :
    (putCells l x k q).setIfInBounds (l.length + k - 1 - q) (bv (UInt8.ofNat (x / 256 ^ q))) = putCells l x k (q + 1) := by
  have e : putRow l x k q = (l ++ List.replicate (k - (q + 1)) 0) ++ 0 :: be x q := by
    unfold putRow
    rw [show k - q = (k - (q + 1)) + 1 by omega, List.replicate_succ']
    simp
  have e2 : putRow l x k (q + 1) = (l ++ List.replicate (k - (q + 1)) 0) ++ UInt8.ofNat (x / 256 ^ q) :: be x q := by
    unfold putRow
    rw [be_head]
  unfold putCells
  rw [e, e2]
  have hl : ((l ++ List.replicate (k - (q + 1)) (0 : UInt8)).map bv).length = l.length + k - 1 - q := by simp; omega
  rw [← hl, List.map_append, List.map_append]
  simp [List.setIfInBounds_toArray]
theorem putCells_size (l : List UInt8) (x k q : Nat) (hq : q ≤ k) : (putCells l x k q).size = l.length + k := by
  simp [putCells, putRow, be_len]; omega
/-- Put, where size is right. -/
theorem put_yes (A : Option Addr) (n c : Nat) (l : List UInt8) (w : World) (h : R8 w w.heap.size A n c l) (hn : n ≤ 140737488355328) (x k : Nat) (hk : 1 ≤ k) (hk8 : k ≤ 8) (hx : x < 18446744073709551616) :
    Calls Try.prog 21 #[.slice A n c, .int .u64 x, .int .i64 k] w (New8 w (l ++ be x k)) := by
  have hs' : szB k = true := by simp [szB]; omega
  have hl := Lib.hid h.1
  go_enter Try.func21, Try.ntmps21
  go_wp2_with (first | (go_at_call 37; refine (sized_any _ _).mono ?_; rintro e w' ⟨rfl, rfl⟩) | (go_at_call 38; refine (longer_at _ _ _ _ _ _ h (by omega)).mono ?_; rintro e w' ⟨g, rfl, hm, hg, hgb, hb⟩))
  have hg0 : Blk w' g 5 (putCells l x k 0) := by unfold putCells; rw [putRow_zero]; exact hg
  clear hg
  go_loopw [1, 8] (fun y i wr => ∃ q : Nat, q ≤ k ∧ i = .int .i64 ((n : Int) + k - 1 - q) ∧ y = .int .u64 (x / 256 ^ q : Nat) ∧ Blk wr g 5 (putCells l x k q) ∧ Below w.heap.size w wr) (fun _ i _ => ((intOf i) - n + 1).toNat)
  case atStart => exact ⟨0, Nat.zero_le _, by simp, by simp, hg0, hb⟩
  case round =>
    obtain ⟨q, hq, rfl, rfl, hgr, hbr⟩ := hrel
    by_cases hlt : q < k
    · obtain ⟨v0, hv0⟩ : ∃ v, wr.cell? ⟨g, n + k - 1 - q, none⟩ = some v := by
        rw [hgr.cell]
        exact ⟨_, Array.getElem?_eq_getElem (by rw [putCells_size _ _ _ _ hq, hl.out]; omega)⟩
      have hf0 := hgr.frozen (n + k - 1 - q)
      have hst := Lib.hid (putCells_step l x k q hlt)
      go_wp2
      go_roundw
      case rel =>
        refine ⟨q + 1, by omega, by go_num, by rw [Nat.pow_succ, ← Nat.div_div_eq_div_mul]; rfl, ?_, hbr.setCell hgb _⟩
        have h1 := hgr.set_ (n + k - 1 - q) (bv (UInt8.ofNat (x / 256 ^ q)))
        have h2 := hst.out
        rw [hl.out] at h2
        rw [h2] at h1
        have e : bv (UInt8.ofNat (x / 256 ^ q)) = Value.int IntKind.u8 ((x : Int) / 256 ^ q % 256) := by
          simp [bv]
        rw [e] at h1
        exact h1
      case measure => simp [intOf]; omega
    · have hqk : q = k := by omega
      have hlen := Lib.hid (show Len (l ++ be x k) (n + k) by simp [Len, be_len, hl.out])
      have hrow : Blk wr g 5 ((l ++ be x k).map bv).toArray := by
        rw [hqk] at hgr
        unfold putCells at hgr
        rw [putRow_all] at hgr
        exact hgr
      clear hqk hgr
      go_wp2
      go_ret
      exact ⟨_, _, rfl, hlen.out, hrow, hgb, hbr⟩
section
variable (A : Option Addr) (n c : Nat) (l : List UInt8) (w : World)
theorem put_any (h : R8 w w.heap.size A n c l) (hn : n ≤ 140737488355328) (x : Nat) (k : Int) (hx : x < 18446744073709551616) :
    Calls Try.prog 21 #[.slice A n c, .int .u64 x, .int .i64 k] w (Out8 w (putL l x k)) := by
  by_cases hs : szB k = true
  · obtain ⟨b, rfl, h1, h8⟩ := sz_nat hs
    have e1 : putL l x b = l ++ be x b := by simp [putL, hs]
    rw [e1]
    exact (put_yes A n c l w h hn x b h1 h8 hx).mono fun _ _ h => h.out
  · have e1 : putL l x k = l := by simp [putL, hs]
    rw [e1]
    exact (put_no A n c l w h hn x k (by simpa using hs)).mono fun _ _ h => h.out
end
end Go.Proofs.Ytgjncaobcgjefaa
