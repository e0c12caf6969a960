/- Contract: octet.longer. -/
import Derived.Test.YtpcdmcaojgpfoaaBase
namespace Go.Proofs.Ytpcdmcaojgpfoaa
open Go.RowKit
set_option linter.unusedVariables false
set_option linter.unusedSimpArgs false
set_option maxRecDepth 20000

theorem longer_at (A : Option Addr) (n c k : Nat) (l : List UInt8) (w : World) (h : R8 w w.heap.size A n c l) (hn : n + k ≤ 281474976710656) :
    Calls Try.prog 67 #[.slice A n c, .int .i64 (k : Int)] w (NewAt w (n + k) (l ++ List.replicate k 0)) := by
  have hmk := fun W => run_make8 (n + k) hn W
  rw [show ((n + k : Nat) : Int) = (n : Int) + (k : Int) by omega] at hmk
  have hblk : ∀ W : World, (W.alloc (.cells (zl (n + k)).toArray 5)).heap[W.heap.size]? = some (.cells (zl (n + k)).toArray 5 (0, 0)) := fun W => Blk.new W 5 (zl (n + k)).toArray
  have HS := Lib.hid (fun (W : World) (hW : Below w.heap.size w W) => (h.below hW).src)
  have HL := Lib.hid (show (l.map bv).length = Nat.min n (n + k) by simp [h.1])
  have HF := Lib.hid (show 0 + (l.map bv).length ≤ (zl (n + k)).length by simp [h.1, zl])
  have HE := Lib.hid (show (l ++ List.replicate k (0 : UInt8)).length = n + k by simp [h.1])
  have HB := Lib.hid (show splice (zl (n + k)) 0 (l.map bv) = (l ++ List.replicate k (0 : UInt8)).map bv by
    simp [splice, zl, h.1])
  go_enter Try.func67, Try.ntmps67
  go_wp2_with (with_reducible refine wpList_copy_splice rfl (.tmp 11) (.tmp 12) 26 26 rfl 5 Try.underlying26 (by kernel_rfl) _ _ _ _ _ _ rfl rfl w.heap.size 0 (zl (n + k)) 5 (hblk _) (l.map bv) HL.out (fun hp => ⟨rfl, HS.out _ ((Below.refl _ _).alloc (Nat.le_refl _) _) hp⟩) HF.out (bv_one l) w.heap.size w ((Below.refl _ _).alloc (Nat.le_refl _) _) (Nat.le_refl _) ?_; intro w2 hg2 hb2)
  go_ret
  refine ⟨w.heap.size, rfl, HE.out, ?_, Nat.le_refl _, hb2⟩
  have := hg2.out
  rw [HB.out] at this
  exact this
theorem longer_any (A : Option Addr) (n c k : Nat) (l : List UInt8) (w : World) (h : R8 w w.heap.size A n c l) (hn : n + k ≤ 281474976710656) :
    Calls Try.prog 67 #[.slice A n c, .int .i64 (k : Int)] w (New8 w (l ++ List.replicate k 0)) :=
  (longer_at A n c k l w h hn).mono fun _ _ h => h.new
theorem longer_zero (A : Option Addr) (n c : Nat) (l : List UInt8) (w : World) (h : R8 w w.heap.size A n c l) (hn : n ≤ 281474976710656) :
    Calls Try.prog 67 #[.slice A n c, .int .i64 0] w (New8 w l) := by
  have := longer_any A n c 0 l w h (by omega)
  simpa using this
end Go.Proofs.Ytpcdmcaojgpfoaa
