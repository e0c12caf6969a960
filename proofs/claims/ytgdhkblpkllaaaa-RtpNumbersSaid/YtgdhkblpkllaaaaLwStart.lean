/- What the laws begin with: a tape of the numbers handed in. No program's function. -/
import Derived.Test.YtgdhkblpkllaaaaLwKnown
import Derived.Test.YtgdhkblpkllaaaaCTapeP
import Derived.Test.YtgdhkblpkllaaaaRdQ
namespace Go.Proofs.Ytgdhkblpkllaaaa
open Go.RowKit
set_option linter.unusedVariables false
set_option linter.unusedSimpArgs false

theorem tape_at {w : World} {A : Option Addr} {n c : Nat} (h : RI w w.heap.size A n c) (hn : n ≤ 281474976710656) : TapeAt (w.alloc (.cells #[.slice A n c, .int .i64 0] 32)) w.heap.size :=
  ⟨A, n, c, 0, Blk.new _ _ _, Nat.zero_le _, hn, h.keep ((Below.refl _ w).alloc (Nat.le_refl _) _)⟩
theorem or32 (n : Nat) (h : n < 256) (h0 : n / 32 % 2 = 0) : bits BinOp.or .u8 (n : Int) 32 = ((n + 32 : Nat) : Int) := by
  have := all256 (f := fun m => decide (m / 32 % 2 = 0 → bits BinOp.or .u8 (m : Int) 32 = ((m + 32 : Nat) : Int))) (by kernel_rfl) h
  exact (of_decide_eq_true this) h0
theorem run_cut_hi (w : World) (A : Option Addr) (n c k : Nat) (hk : k ≤ c) :
    (Instr.slice 25 (.slice A n c) none (some (.int .i64 (k : Int))) none).run Try.prog w = .ok (.slice A k c) w := by
  have e : (if c = 0 then A else A.map (·.add 0)) = A := by
    split
    · rfl
    · cases A with
      | none => rfl
      | some a => simp [Addr.add]
  have hs : (Try.prog.elem 25) = 5 := by simp [Program.elem, Try.underlying25]
  have h3 := run_slice_h (P := Try.prog) w 25 A n c (by rw [hs]; exact Try.underlying25) .i64 (k : Nat) (by omega) (by omega)
  rw [hs] at h3
  obtain ⟨i0, hi0, hz0, hz1, hz2⟩ := info_parts u8_info
  rw [h3]
  simp [sizeOf, typeInfo, hi0, hz1, sliced, Result.andThen, e]
theorem rtp_read_p (A : Option Addr) (n c : Nat) (l : List UInt8) (p : Pkt) (w : World) (h : R8 w w.heap.size A n c l) (hn : n ≤ 140737488355328) (h1 : rdErr l = 0) (h2 : rdP l = p) :
    Calls Try.prog 19 #[.slice A n c] w fun e w' => ∃ A1 c1 A2 c2 A3 c3, e = .returned (.tuple #[p.val A1 c1 A2 c2 A3 c3, .int .i64 0]) ∧ IsP w' w'.heap.size A1 c1 A2 c2 A3 c3 p ∧ Below w.heap.size w w' := by
  refine (rtp_read A n c l w h hn).mono ?_
  rintro e w' ⟨A1, c1, A2, c2, A3, c3, rfl, hp, hb⟩
  rw [h2] at hp
  exact ⟨A1, c1, A2, c2, A3, c3, by rw [h1, h2], hp, hb⟩
end Go.Proofs.Ytgdhkblpkllaaaa
