/- Contracts: (*limelightkeep.Tape).Bytes, Word. -/
import Derived.Test.YtpcdmcaojgpfoaaCNext
import Derived.Test.YtpcdmcaojgpfoaaAppG
namespace Go.Proofs.Ytpcdmcaojgpfoaa
open Go.RowKit
set_option linter.unusedVariables false
set_option linter.unusedSimpArgs false
set_option maxRecDepth 20000

/-- So many bytes at most, in new memory (or none). -/
def BytesOut (g : Nat) (n : Nat) (w : World) (e : Ending) (w' : World) : Prop :=
  ∃ A c l, e = .returned (.slice A l.length c) ∧ l.length ≤ n ∧ R8 w' w'.heap.size A l.length c l ∧ Moves g w w' ∧ ∀ ad, A = some ad → w.heap.size ≤ ad.block ∧ ad.block < w'.heap.size
theorem Own8.nil (w : World) (base : Nat) : Own8 w base (.slice none 0 0) [] := ⟨rfl, .inl ⟨rfl, rfl⟩⟩
theorem tape_bytes (g n : Nat) (w : World) (hT : TapeAt w g) (hn : n ≤ 1000000) :
    Calls Try.prog 32 #[.pointer (some ⟨g, 0, none⟩), .int .i64 (n : Int)] w (BytesOut g n w) := by
  have hg := hT.lt
  go_enter Try.func32, Try.ntmps32
  go_wp2_with fail
  refine (next_any g ((n : Int) + 1) _ hT (by unfold I64; omega)).mono ?_
  rintro e w1 ⟨r, rfl, hr0, hr1, hm1⟩
  go_wp2_with fail
  go_loopw [5, 6] (fun v i wr => ∃ (k : Nat) (l : List UInt8), i = .int .i64 (k : Int) ∧ l.length + k ≤ n ∧ Own8 wr w.heap.size v l ∧ Moves g w wr) (fun _ i _ => (intOf i).toNat)
  case atStart =>
    exact ⟨r.toNat, [], by congr 1; omega, by simp; omega, Own8.nil _ _, hm1⟩
  case round =>
    obtain ⟨k, l, rfl, hl, hor, hmr⟩ := hrel
    by_cases hk : 0 < k
    · have hk' : (0 : Int) < (k : Int) := by omega
      go_wp2_with fail
      refine (next_any g 256 _ hmr.tape (by unfold I64; omega)).mono ?_
      rintro e w2 ⟨x, rfl, hx0, hx1, hm2⟩
      have hor2 : Own8 w2 w.heap.size _ l := own_moves hor hg hm2
      have hmw := hmr.trans hm2
      have hsz := hmw.below.size
      have hx8 := Lib.hid (show x = (((UInt8.ofNat x.toNat).toNat : Nat) : Int) by simp; omega)
      have hlb := Lib.hid (show l.length + 1 ≤ 140737488355328 by omega)
      clear hm2 hmr hor
      go_wp2_with (at_builtin; with_reducible refine wpList_append8 rfl (.tmp 15) (.tmp 19) rfl rfl w.heap.size _ _ rfl (hor2.alloc _) (w2.heap.size + 1) _ 1 1 [UInt8.ofNat x.toNat] rfl (one_r8 _ _ _ hx8.out) hlb.out (le_alloc hsz _) ?_; intro v2 w3 ha2)
      have hb2 := ha2.below ((Below.refl w.heap.size w2).alloc hsz _) (le_alloc hsz _) (hor2.alloc _) (Nat.le_refl _)
      go_roundw
      case rel =>
        exact ⟨k - 1, l ++ [UInt8.ofNat x.toNat], by congr 1; omega, by simp; omega, ha2.1, hmw.and hg hb2⟩
      case measure => simp [intOf]; omega
    · have hk' : ¬ (0 : Int) < (k : Int) := by omega
      obtain ⟨A, c, rfl, hR⟩ := hor.r8
      go_wp2_with fail
      go_ret
      exact ⟨A, c, l, rfl, by omega, hR, hmr, own_block hor⟩
/-- A number of 32 bits. -/
def WordOut (g : Nat) (w : World) (e : Ending) (w' : World) : Prop := ∃ x : Nat, e = .returned (.int .u32 (x : Int)) ∧ x < 4294967296 ∧ Moves g w w'
theorem u32_wrap (z : Int) : ∃ x : Nat, IntKind.u32.wrap z = (x : Int) ∧ x < 4294967296 := by
  have h := IntKind.wrap_u32 z
  exact ⟨(IntKind.u32.wrap z).toNat, by omega, by omega⟩
theorem tape_word (g : Nat) (w : World) (hT : TapeAt w g) :
    Calls Try.prog 31 #[.pointer (some ⟨g, 0, none⟩)] w (WordOut g w) := by
  go_enter Try.func31, Try.ntmps31
  go_wp2_with fail
  refine (next_any g 1048576 _ hT (by unfold I64; omega)).mono ?_
  rintro e w1 ⟨r, rfl, hr0, hr1, hm1⟩
  go_wp2_with fail
  refine (next_any g 4096 _ hm1.tape (by unfold I64; omega)).mono ?_
  rintro e w2 ⟨s, rfl, hs0, hs1, hm2⟩
  go_wp2_with fail
  refine (next_any g 5 _ hm2.tape (by unfold I64; omega)).mono ?_
  rintro e w3 ⟨t, rfl, ht0, ht1, hm3⟩
  go_wp2_with fail
  go_ret
  exact ⟨((r * (1 + s) % 4294967296 + t) % 4294967296).toNat, by refine congrArg (fun b => Ending.returned (Value.int .u32 b)) ?_; omega, by omega, (hm1.trans hm2).trans hm3⟩
end Go.Proofs.Ytpcdmcaojgpfoaa
