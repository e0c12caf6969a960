/- The law's helper 'known': chapter 1's runs. -/
import Derived.Test.YtpcaanedplbeoaaSame
import Derived.Lib.SmallJoins
namespace Go.Proofs.Ytpcaanedplbeoaa
open Go.RowKit Go.Joins
set_option linter.unusedVariables false
set_option linter.unusedSimpArgs false

/-- A block laid for a literal reads as its bytes (whatever its mark). -/
theorem lit_r8 (l : List UInt8) (cs : Array Value) (n : Nat) (fr : Nat × Nat) (hn : l.length = n) (h : (l.map bv).toArray = cs) (w : World) :
    R8 (w.alloc (.cells cs 5 fr)) (w.alloc (.cells cs 5 fr)).heap.size (some ⟨w.heap.size, 0, none⟩) n n l := by
  subst h
  refine ⟨hn, Nat.le_refl _, fun _ => ⟨w.heap.size, 0, rfl, by simp, fun i hi => ?_⟩⟩
  rw [Nat.zero_add, World.cell?_alloc_mark]
  have : i < l.length := by omega
  simp [List.getD, this, bv]
theorem lit_r8_at (l : List UInt8) (cs : Array Value) (n g : Nat) (fr : Nat × Nat) (w : World) (hg : g = w.heap.size) (hn : l.length = n) (h : (l.map bv).toArray = cs) :
    R8 (w.alloc (.cells cs 5 fr)) (w.alloc (.cells cs 5 fr)).heap.size (some ⟨g, 0, none⟩) n n l := by
  subst hg
  exact lit_r8 l cs n fr hn h w
theorem R8.take_ {w : World} {B n c : Nat} {A : Option Addr} {l : List UInt8} (h : R8 w B A n c l) (k : Nat) (hk : k ≤ n) : R8 w B A k c (l.take k) := by
  have hl := h.1
  have hc := h.2.1
  refine ⟨by simp; omega, by omega, fun hp => ?_⟩
  obtain ⟨b, off, rfl, hb, hcell⟩ := h.2.2 (by omega)
  refine ⟨b, off, rfl, hb, fun i hi => ?_⟩
  rw [hcell i (by omega)]
  simp [List.getD, List.getElem?_take, hi]
theorem i64_lit (n : Nat) (h : n ≤ 100) : I64 n := by unfold I64; omega

theorem known_any (w : World) : Calls Try.prog 9 #[] w (Yes w) := by
  have kc := fun (C D : Array Value) (n c : Nat) => run_convert_bytes_const_at (P := Try.prog) (w.alloc (.cells D 5)) 22 5 C n c (w.heap.size + 1) (by simp) Try.underlying22 Try.underlying5
  go_enter Try.func9, Try.ntmps9
  go_wp2_with fail
  refine (get_any _ _ _ [0, 1, 2] _ (lit_r8 _ _ 3 (0, 0) rfl rfl _) (by omega) 1 2 (i64_lit 1 (by omega))).mono ?_
  rintro e w1 ⟨rfl, rfl⟩
  rw [show getN [0, 1, 2] 1 2 = 258 by decide, show getB 3 1 2 = true by decide]
  have b1 : Below w.heap.size w (w.alloc (.cells #[bv 0, bv 1, bv 2] 5)) := (Below.refl _ _).alloc (Nat.le_refl _) _
  go_wp2_with fail
  refine (get_any none 0 0 [] _ (R8.nil _ _ _ _) (by omega) 0 1 (i64_lit 0 (by omega))).mono ?_
  rintro e w1 ⟨rfl, rfl⟩
  rw [show getN [] 0 1 = 0 by decide, show getB 0 0 1 = false by decide]
  go_wp2_with fail
  refine (cut_any _ _ _ [97, 98, 99] _ (lit_r8_at _ _ 3 _ (3, 4) _ (by simp) rfl rfl) (by omega) 1 2 (i64_lit 1 (by omega))).mono ?_
  rintro e w3 ⟨A3, m3, c3, rfl, hr3, hb3⟩
  rw [show cutL [97, 98, 99] 1 2 = [98, 99] by decide] at hr3
  rw [show thB 3 1 2 = true by decide]
  have b3 : Below w.heap.size w w3 := (b1.alloc (by simp) _).trans (hb3.mono (by simp; omega))
  clear hb3 b1 kc
  go_wp2_with fail
  refine (put_any none 0 0 [] _ (R8.nil _ _ _ _) (by omega) 258 3 (by omega)).mono ?_
  rintro e w4 ⟨A4, m4, c4, rfl, hr4, hb4⟩
  rw [show putL [] 258 3 = [0, 1, 2] by decide] at hr4
  have hr3' := hr3.on hb4
  have b4 : Below w.heap.size w w4 := b3.trans (hb4.mono b3.size)
  have s4 := hr4.string (P := Try.prog) 22 5 9 Try.underlying22 Try.underlying5 Try.underlying9
  have s3 := hr3'.string (P := Try.prog) 22 5 9 Try.underlying22 Try.underlying5 Try.underlying9
  clear hr3 hb4 b3
  have hmk : ∀ W : World, (Instr.makeSlice 22 (.int .i64 4) (.int .i64 4)).run Try.prog W = .ok (.slice (some ⟨W.heap.size, 0, none⟩) 4 4) (W.alloc (.cells (zl 4).toArray 5)) := fun W => run_make8 4 (by omega) W
  go_wp2_with fail
  refine (pad_all _ _ _ [1] _ (lit_r8 _ _ 1 (0, 0) rfl rfl _) (by omega) 4).mono ?_
  rintro e w5 ⟨A5, m5, c5, rfl, hr5, hb5⟩
  have e5 : m5 = 4 := by rw [← hr5.1]; decide
  subst e5
  have b5 : Below w.heap.size w w5 := (b4.alloc b4.size _).trans (hb5.mono (le_alloc b4.size _))
  clear hb5 b4 s3 s4 hr4 hr3' hr5
  go_wp2_with fail
  refine (pad_all _ _ _ [0, 0, 0, 0] _ (lit_r8 _ _ 4 (0, 0) rfl rfl _) (by omega) 4).mono ?_
  rintro e w6 ⟨A6, m6, c6, rfl, hr6, hb6⟩
  have e6 : m6 = 4 := by rw [← hr6.1]; decide
  subst e6
  have b6 : Below w.heap.size w w6 := (b5.alloc b5.size _).trans (hb6.mono (le_alloc b5.size _))
  clear hb6 b5 hr6 hmk
  go_wp2_with fail
  refine (put_any none 0 0 [] _ (R8.nil _ _ _ _) (by omega) 1 9 (by omega)).mono ?_
  rintro e w7 ⟨A7, m7, c7, rfl, hr7, hb7⟩
  have e7 : m7 = 0 := by rw [← hr7.1]; decide
  subst e7
  have b7 : Below w.heap.size w w7 := b6.trans (hb7.mono b6.size)
  clear hb7 b6 hr7
  go_wp2
  go_ret
  exact ⟨rfl, b7⟩
end Go.Proofs.Ytpcaanedplbeoaa
