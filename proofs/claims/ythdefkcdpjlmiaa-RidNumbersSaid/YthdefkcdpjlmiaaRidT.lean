/- The walk of layer 2's law RidTells. -/
import Derived.Test.YthdefkcdpjlmiaaRidE
namespace Go.Proofs.Ythdefkcdpjlmiaa
open Go.RowKit
set_option linter.unusedVariables false
set_option linter.unusedSimpArgs false

theorem i64_bits (op : BinOp) (a b : Int) : I64 (bits op .i64 a b) := by
  have h : ∀ m : Int, I64 (IntKind.i64.wrap m) := by
    intro m
    have := IntKind.wrap_i64 m
    unfold I64
    omega
  exact h _
theorem cut_size (a : ByteArray) (n : Nat) : (a.extract 0 n).size ≤ n := by rw [ByteArray.size_extract]; omega
set_option maxHeartbeats 4000000 in
theorem ridTells_walk (a b : ByteArray) (n : Int) (w : World) (ha : a.size ≤ 140737488351232) (hb : b.size ≤ 140737488351232) (hn : I64 n) : Calls Try.prog 4 #[.string a, .string b, .int .i64 n] w (Yes w) := by
  have core : ∀ (x y : ByteArray) (W : World), x.size ≤ 90 → y.size ≤ 90 → (Op.stringOp .add y x).run Try.prog W = .ok (.string (y ++ x)) W := fun x y W hx hy => run_string_add_sum W y x (by omega)
  go_enter Try.func4, Try.ntmps4
  have sa := cut_size a 90
  have sb := cut_size b 90
  by_cases ga : 90 < a.size <;> by_cases gb : 90 < b.size
  · have c := fun W => core (a.extract 0 90) (b.extract 0 90) W sa sb
    clear core
    go_wp2_with fail
    refine (lawsame (a.extract 0 90) (b.extract 0 90) n _ (by omega) (by omega) hn).mono ?_
    rintro e w1 ⟨rfl, b1⟩
    go_wp2_with fail
    refine (lawsame (a.extract 0 90) (a.extract 0 90) _ _ (by omega) (by omega) (i64_bits _ _ _)).mono ?_
    rintro e w2 ⟨rfl, b2⟩
    have b2' := b1.trans (b2.mono b1.size)
    clear b1 b2
    go_wp2_with fail
    refine (lawsame ((b.extract 0 90) ++ (a.extract 0 90)) (a.extract 0 90) _ _ (by rw [ByteArray.size_append]; omega) (by omega) (i64_bits _ _ _)).mono ?_
    rintro e w3 ⟨rfl, b3⟩
    have b3' := b2'.trans (b3.mono b2'.size)
    clear b2' b3
    go_wp2_with fail
    refine (known_any _).mono ?_
    rintro e w4 ⟨rfl, b4⟩
    have b4' := b3'.trans (b4.mono b3'.size)
    clear b3' b4
    go_wp2_with fail
    go_ret
    exact ⟨rfl, b4'⟩
  · have c := fun W => core (a.extract 0 90) b W sa (by omega)
    clear core
    go_wp2_with fail
    refine (lawsame (a.extract 0 90) b n _ (by omega) (by omega) hn).mono ?_
    rintro e w1 ⟨rfl, b1⟩
    go_wp2_with fail
    refine (lawsame (a.extract 0 90) (a.extract 0 90) _ _ (by omega) (by omega) (i64_bits _ _ _)).mono ?_
    rintro e w2 ⟨rfl, b2⟩
    have b2' := b1.trans (b2.mono b1.size)
    clear b1 b2
    go_wp2_with fail
    refine (lawsame (b ++ (a.extract 0 90)) (a.extract 0 90) _ _ (by rw [ByteArray.size_append]; omega) (by omega) (i64_bits _ _ _)).mono ?_
    rintro e w3 ⟨rfl, b3⟩
    have b3' := b2'.trans (b3.mono b2'.size)
    clear b2' b3
    go_wp2_with fail
    refine (known_any _).mono ?_
    rintro e w4 ⟨rfl, b4⟩
    have b4' := b3'.trans (b4.mono b3'.size)
    clear b3' b4
    go_wp2_with fail
    go_ret
    exact ⟨rfl, b4'⟩
  · have c := fun W => core a (b.extract 0 90) W (by omega) sb
    clear core
    go_wp2_with fail
    refine (lawsame a (b.extract 0 90) n _ (by omega) (by omega) hn).mono ?_
    rintro e w1 ⟨rfl, b1⟩
    go_wp2_with fail
    refine (lawsame a a _ _ (by omega) (by omega) (i64_bits _ _ _)).mono ?_
    rintro e w2 ⟨rfl, b2⟩
    have b2' := b1.trans (b2.mono b1.size)
    clear b1 b2
    go_wp2_with fail
    refine (lawsame ((b.extract 0 90) ++ a) a _ _ (by rw [ByteArray.size_append]; omega) (by omega) (i64_bits _ _ _)).mono ?_
    rintro e w3 ⟨rfl, b3⟩
    have b3' := b2'.trans (b3.mono b2'.size)
    clear b2' b3
    go_wp2_with fail
    refine (known_any _).mono ?_
    rintro e w4 ⟨rfl, b4⟩
    have b4' := b3'.trans (b4.mono b3'.size)
    clear b3' b4
    go_wp2_with fail
    go_ret
    exact ⟨rfl, b4'⟩
  · have c := fun W => core a b W (by omega) (by omega)
    clear core
    go_wp2_with fail
    refine (lawsame a b n _ (by omega) (by omega) hn).mono ?_
    rintro e w1 ⟨rfl, b1⟩
    go_wp2_with fail
    refine (lawsame a a _ _ (by omega) (by omega) (i64_bits _ _ _)).mono ?_
    rintro e w2 ⟨rfl, b2⟩
    have b2' := b1.trans (b2.mono b1.size)
    clear b1 b2
    go_wp2_with fail
    refine (lawsame (b ++ a) a _ _ (by rw [ByteArray.size_append]; omega) (by omega) (i64_bits _ _ _)).mono ?_
    rintro e w3 ⟨rfl, b3⟩
    have b3' := b2'.trans (b3.mono b2'.size)
    clear b2' b3
    go_wp2_with fail
    refine (known_any _).mono ?_
    rintro e w4 ⟨rfl, b4⟩
    have b4' := b3'.trans (b4.mono b3'.size)
    clear b3' b4
    go_wp2_with fail
    go_ret
    exact ⟨rfl, b4'⟩
end Go.Proofs.Ythdefkcdpjlmiaa
