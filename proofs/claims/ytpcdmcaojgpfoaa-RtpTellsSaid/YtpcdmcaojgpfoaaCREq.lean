/- Contracts: slices.Equal of words, of bytes. -/
import Derived.Test.YtpcdmcaojgpfoaaCR3Same
namespace Go.Proofs.Ytpcdmcaojgpfoaa
open Go.RowKit
set_option linter.unusedVariables false
set_option linter.unusedSimpArgs false
set_option maxRecDepth 20000

theorem take_succ_eq8 (a b : List UInt8) (q : Nat) (h : q < a.length) (hl : a.length = b.length) (ht : a.take q = b.take q) (he : a.getD q 0 = b.getD q 0) : a.take (q + 1) = b.take (q + 1) := by
  have hb : q < b.length := by omega
  rw [List.take_add_one, List.take_add_one, ht]
  simp only [List.getD_eq_getElem?_getD, List.getElem?_eq_getElem h, List.getElem?_eq_getElem hb, Option.getD_some] at he ⊢
  rw [he]

theorem eq32 (A : Option Addr) (n c : Nat) (B : Option Addr) (m d : Nat) (l r : List Nat) (w : World) (h : R32 w w.heap.size A n c l) (k : R32 w w.heap.size B m d r) (hN : n ≤ 140737488355328) :
    Calls Try.prog 41 #[.slice A n c, .slice B m d] w fun e w' => e = .returned (.bool (l == r)) ∧ Below w.heap.size w w' := by
  have hl := h.1
  have hr := k.1
  go_enter Try.func41, Try.ntmps41
  by_cases e : n = m
  case neg =>
    have g : ((n : Int) != (m : Int)) = true := by simp; omega
    have e' : l ≠ r := fun h => e (by rw [← hl, ← hr, h])
    clear h k hl hr
    go_wp2_with fail
    go_ret
    exact ⟨by simp [e'], Below.refl _ _⟩
  have g : ((n : Int) != (m : Int)) = false := by simp; omega
  have hln := Lib.hid e
  have hl' := Lib.hid hl
  have hr' := Lib.hid hr
  clear e hl hr
  go_wp2_with fail
  clear g
  go_loopw [5, 13] (fun _ i wr => ∃ q : Nat, q ≤ n ∧ i = .int .i64 (q : Int) ∧ l.take q = r.take q ∧ ∃ k, wr = w.drewN k) (fun _ i _ => n - (intOf i).toNat)
  case atStart => exact ⟨0, by omega, rfl, by simp, 0, rfl⟩
  case round =>
    obtain ⟨q, hq, rfl, htk, z, rfl⟩ := hrel
    by_cases hlt : q < n
    · have g3 : decide ((q : Int) < (n : Int)) = true := by simp; omega
      have g4 : (q : Int) < (m : Int) := by have := hln.out; omega
      have g5 : (q : Int) < (n : Int) := by omega
      obtain ⟨x1, y1, rfl, z1, u1⟩ := h.2.2.2 (by omega)
      obtain ⟨x2, y2, rfl, z2, u2⟩ := k.2.2.2 (by have := hln.out; omega)
      have t1 := u1 q hlt
      have t2 := u2 q (by have := hln.out; omega)
      clear u1 u2 h k
      generalize hA : l.getD q 0 = a at t1
      generalize hB : r.getD q 0 = b at t2
      have hA' := Lib.hid hA
      have hB' := Lib.hid hB
      clear hA hB
      go_wp2_with fail
      go_quiet (fail)
      by_cases he : a = b
      · have g6 : ((a : Int) != (b : Int)) = false := by rw [he]; simp
        have he' := Lib.hid he
        clear he
        go_wp2_with fail
        refine ⟨⟨q + 1, by omega, by first | rfl | (congr 1; unfold wrap64; omega), ?_, _, rfl⟩, ?_⟩
        · exact take_succ_eq l r q (by have := hl'.out; omega) (by have := hl'.out; have := hr'.out; have := hln.out; omega) htk (hA'.out.trans (he'.out.trans hB'.out.symm))
        · simp only [intOf]; first | omega | (unfold wrap64; omega)
      · have g6 : ((a : Int) != (b : Int)) = true := by simp only [bne_iff_ne, ne_eq]; omega
        have hne : l ≠ r := by rintro rfl; exact he (hA'.out.symm.trans hB'.out)
        clear htk
        go_wp2_with fail
        go_ret
        exact ⟨by simp [hne], (below_drewN_ _ _ _).trans (below_drewN_ _ _ _)⟩
    · have g3 : decide ((q : Int) < (n : Int)) = false := by simp; omega
      have hall : l = r := by
        rwa [List.take_of_length_le (by have := hl'.out; omega), List.take_of_length_le (by have := hr'.out; have := hln.out; omega)] at htk
      clear htk
      go_wp2_with fail
      go_ret
      exact ⟨by simp [hall], below_drewN_ _ _ _⟩

theorem eq8 (A : Option Addr) (n c : Nat) (B : Option Addr) (m d : Nat) (l r : List UInt8) (w : World) (h : R8 w w.heap.size A n c l) (k : R8 w w.heap.size B m d r) (hN : n ≤ 140737488355328) :
    Calls Try.prog 42 #[.slice A n c, .slice B m d] w fun e w' => e = .returned (.bool (l == r)) ∧ Below w.heap.size w w' := by
  have hl := h.1
  have hr := k.1
  go_enter Try.func42, Try.ntmps42
  by_cases e : n = m
  case neg =>
    have g : ((n : Int) != (m : Int)) = true := by simp; omega
    have e' : l ≠ r := fun h => e (by rw [← hl, ← hr, h])
    clear h k hl hr
    go_wp2_with fail
    go_ret
    exact ⟨by simp [e'], Below.refl _ _⟩
  have g : ((n : Int) != (m : Int)) = false := by simp; omega
  have hln := Lib.hid e
  have hl' := Lib.hid hl
  have hr' := Lib.hid hr
  clear e hl hr
  go_wp2_with fail
  clear g
  go_loopw [5, 13] (fun _ i wr => ∃ q : Nat, q ≤ n ∧ i = .int .i64 (q : Int) ∧ l.take q = r.take q ∧ ∃ k, wr = w.drewN k) (fun _ i _ => n - (intOf i).toNat)
  case atStart => exact ⟨0, by omega, rfl, by simp, 0, rfl⟩
  case round =>
    obtain ⟨q, hq, rfl, htk, z, rfl⟩ := hrel
    by_cases hlt : q < n
    · have g3 : decide ((q : Int) < (n : Int)) = true := by simp; omega
      have g4 : (q : Int) < (m : Int) := by have := hln.out; omega
      have g5 : (q : Int) < (n : Int) := by omega
      obtain ⟨x1, y1, rfl, z1, u1⟩ := h.2.2 (by omega)
      obtain ⟨x2, y2, rfl, z2, u2⟩ := k.2.2 (by have := hln.out; omega)
      have t1 := u1 q hlt
      have t2 := u2 q (by have := hln.out; omega)
      clear u1 u2 h k
      generalize hA : l.getD q 0 = a at t1
      generalize hB : r.getD q 0 = b at t2
      have hA' := Lib.hid hA
      have hB' := Lib.hid hB
      clear hA hB
      go_wp2_with fail
      go_quiet (fail)
      by_cases he : a = b
      · have g6 : ((a.toNat : Int) != (b.toNat : Int)) = false := by rw [he]; simp
        have he' := Lib.hid he
        clear he
        go_wp2_with fail
        refine ⟨⟨q + 1, by omega, by first | rfl | (congr 1; unfold wrap64; omega), ?_, _, rfl⟩, ?_⟩
        · exact take_succ_eq8 l r q (by have := hl'.out; omega) (by have := hl'.out; have := hr'.out; have := hln.out; omega) htk (hA'.out.trans (he'.out.trans hB'.out.symm))
        · simp only [intOf]; first | omega | (unfold wrap64; omega)
      · have g6 : ((a.toNat : Int) != (b.toNat : Int)) = true := by simp only [bne_iff_ne, ne_eq]; intro h; exact he (UInt8.toNat_inj.1 (by omega))
        have hne : l ≠ r := by rintro rfl; exact he (hA'.out.symm.trans hB'.out)
        clear htk
        go_wp2_with fail
        go_ret
        exact ⟨by simp [hne], (below_drewN_ _ _ _).trans (below_drewN_ _ _ _)⟩
    · have g3 : decide ((q : Int) < (n : Int)) = false := by simp; omega
      have hall : l = r := by
        rwa [List.take_of_length_le (by have := hl'.out; omega), List.take_of_length_le (by have := hr'.out; have := hln.out; omega)] at htk
      clear htk
      go_wp2_with fail
      go_ret
      exact ⟨by simp [hall], below_drewN_ _ _ _⟩
end Go.Proofs.Ytpcdmcaojgpfoaa
