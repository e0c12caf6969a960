/- The walks of layer 1's laws: OctetTells, OctetOrder. -/
import Derived.Test.YtpcaanedplbeoaaKnown
namespace Go.Proofs.Ytpcaanedplbeoaa
open Go.RowKit
set_option linter.unusedVariables false
set_option linter.unusedSimpArgs false

theorem i64_bits (op : BinOp) (a b : Int) : I64 (bits op .i64 a b) := by
  have h : ∀ m : Int, I64 (IntKind.i64.wrap m) := by
    intro m
    have := IntKind.wrap_i64 m
    unfold I64
    omega
  exact h _
theorem octetTells_walk (A : Option Addr) (n c : Nat) (l : List UInt8) (x : Nat) (i k : Int) (w : World) (h : R8 w w.heap.size A n c l) (hn : n ≤ 140737488351232) (hx8 : x < 18446744073709551616) (hi : I64 i) (hk : I64 k) :
    Calls Try.prog 4 #[.slice A n c, .int .u64 x, .int .i64 i, .int .i64 k] w (Yes w) := by
  go_enter Try.func4, Try.ntmps4
  go_wp2_with fail
  refine (same_any _ _ _ _ _ h hn _ hx8 _ _ hi).mono ?_
  rintro e w1 ⟨rfl, b1⟩
  have h1 := h.on b1
  go_wp2_with fail
  refine (same_any _ _ _ _ _ h1 hn _ hx8 _ _ (i64_bits _ _ _)).mono ?_
  rintro e w2 ⟨rfl, b2⟩
  have h2 := h1.on b2
  have b2' := b1.trans (b2.mono b1.size)
  clear b1 b2 h1
  go_wp2_with fail
  refine (within_any _ _ _ _ hi (by omega) (by omega) (by omega)).mono ?_
  rintro e w3 ⟨r1, rfl, k1, k2, rfl⟩
  go_wp2_with fail
  refine (within_any _ _ _ _ hk (by omega) (by omega) (by omega)).mono ?_
  rintro e w3 ⟨r2, rfl, k3, k4, rfl⟩
  go_wp2_with fail
  refine (same_any _ _ _ _ _ h2 hn _ hx8 _ _ (by unfold I64; omega)).mono ?_
  rintro e w3 ⟨rfl, b3⟩
  have b3' := b2'.trans (b3.mono b2'.size)
  clear b2' b3 h2
  go_wp2_with fail
  refine (known_any _).mono ?_
  rintro e w4 ⟨rfl, b4⟩
  have b4' := b3'.trans (b4.mono b3'.size)
  clear b3' b4
  go_wp2
  go_ret
  exact ⟨rfl, b4'⟩
end Go.Proofs.Ytpcaanedplbeoaa
