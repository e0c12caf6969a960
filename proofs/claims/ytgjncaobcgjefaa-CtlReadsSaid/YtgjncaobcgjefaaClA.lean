/- Contracts: slices.Concat of two rows of bytes, slices.Equal of bytes. -/
import Derived.Test.YtgjncaobcgjefaaCRConcat
import Derived.Test.YtgjncaobcgjefaaCRefPut
import Derived.BigQuiet
import Derived.Deep.QuietTactic
namespace Go.Proofs.Ytgjncaobcgjefaa
open Go.RowKit
set_option linter.unusedVariables false
set_option linter.unusedSimpArgs false
set_option maxRecDepth 20000

set_option maxHeartbeats 4000000 in
theorem concat2_own (g : Nat) (A1 A2 : Option Addr) (n1 c1 n2 c2 : Nat) (l1 l2 : List UInt8) (w : World) (hg : g < w.heap.size)
    (k0 : w.cell? ⟨g, 0, none⟩ = some (.slice A1 n1 c1)) (k1 : w.cell? ⟨g, 1, none⟩ = some (.slice A2 n2 c2))
    (h1 : R8 w w.heap.size A1 n1 c1 l1) (h2 : R8 w w.heap.size A2 n2 c2 l2) (hn : n1 + n2 ≤ 1000000) :
    Calls Try.prog 19 #[.slice (some ⟨g, 0, none⟩) 2 2] w (OwnOut w (l1 ++ l2)) := by
  have m1 := Lib.hid h1.1
  have m2 := Lib.hid h2.1
  go_enter Try.func19, Try.ntmps19
  go_wp2_with fail
  go_loop [3, 5, 11] (fun s _ i => (i = .int .i64 0 ∧ s = .int .i64 0) ∨ (i = .int .i64 1 ∧ s = .int .i64 (n1 : Int)) ∨ (i = .int .i64 2 ∧ s = .int .i64 ((n1 + n2 : Nat) : Int))) (fun _ _ i => 2 - (intOf i).toNat)
  case atStart => exact .inl ⟨rfl, rfl⟩
  case round =>
    rcases hrel with ⟨rfl, rfl⟩ | ⟨rfl, rfl⟩ | ⟨rfl, rfl⟩
    · clear k1 h1 h2
      have g0 : ¬ ((n1 : Int) < 0) := by omega
      go_wp2_with fail
      go_round
      case rel => exact .inr (.inl ⟨rfl, rfl⟩)
      case measure => decide
    · clear k0 h1 h2
      have g0 : ¬ ((n1 : Int) + (n2 : Int) < 0) := by omega
      go_wp2_with fail
      go_round
      case rel => exact .inr (.inr ⟨rfl, rfl⟩)
      case measure => decide
    · go_wp2_with fail
      refine (grow_nil (n1 + n2) _ hn).mono ?_
      rintro e w1 ⟨v, rfl, ho, hb⟩
      go_wp2_with fail
      go_loopw [6, 8, 27] (fun v _ i wr => Below w.heap.size w wr ∧ ((i = .int .i64 0 ∧ Own8 wr w.heap.size v []) ∨ (i = .int .i64 1 ∧ Own8 wr w.heap.size v l1) ∨ (i = .int .i64 2 ∧ Own8 wr w.heap.size v (l1 ++ l2)))) (fun _ _ i _ => 2 - (intOf i).toNat)
      case atStart => exact ⟨hb, .inl ⟨rfl, ho⟩⟩
      case round =>
        rename_i vr xr ir wr
        obtain ⟨hbr, hrel⟩ := hrel
        clear hb ho
        have j0 := (hbr.cell (p := ⟨g, 0, none⟩) hg).trans k0
        have j1 := (hbr.cell (p := ⟨g, 1, none⟩) hg).trans k1
        have r1 := h1.on hbr
        have r2 := h2.on hbr
        have hsz := hbr.size
        clear k0 k1 h1 h2
        rcases hrel with ⟨rfl, hor⟩ | ⟨rfl, hor⟩ | ⟨rfl, hor⟩
        · have hbb := Lib.hid (show ([] : List UInt8).length + n1 ≤ 140737488355328 by simp; omega)
          clear j1 r2
          go_wp2_with (at_builtin; go_loud (with_reducible refine wpList_append8 rfl (.tmp 31) (.tmp 32) rfl rfl w.heap.size _ [] (by with_unfolding_all rfl) hor wr.heap.size A1 n1 c1 l1 (by with_unfolding_all rfl) r1 hbb.out hsz ?_); intro v2 w3 ha2)
          have hb2 := ha2.below hbr hsz hor (Nat.le_refl _)
          go_roundw
          case rel => exact ⟨hb2, .inr (.inl ⟨rfl, by have := ha2.1; simpa using this⟩)⟩
          case measure => decide
        · have hbb := Lib.hid (show l1.length + n2 ≤ 140737488355328 by have := m1.out; simp; omega)
          clear j0 r1
          go_wp2_with (at_builtin; go_loud (with_reducible refine wpList_append8 rfl (.tmp 31) (.tmp 32) rfl rfl w.heap.size _ l1 (by with_unfolding_all rfl) hor wr.heap.size A2 n2 c2 l2 (by with_unfolding_all rfl) r2 hbb.out hsz ?_); intro v2 w3 ha2)
          have hb2 := ha2.below hbr hsz hor (Nat.le_refl _)
          go_roundw
          case rel => exact ⟨hb2, .inr (.inr ⟨rfl, ha2.1⟩)⟩
          case measure => decide
        · clear j0 j1 r1 r2
          go_wp2_with fail
          go_ret
          exact ⟨_, rfl, hor, hbr⟩
theorem below_drewN8 (B : Nat) (w : World) (n : Nat) : Below B w (w.drewN n) := ⟨rfl, rfl, rfl, Nat.le_refl _, fun _ _ => rfl⟩
theorem take_succ_eq8 (a b : List UInt8) (q : Nat) (h : q < a.length) (hl : a.length = b.length) (ht : a.take q = b.take q) (he : a.getD q 0 = b.getD q 0) : a.take (q + 1) = b.take (q + 1) := by
  have hb : q < b.length := by omega
  rw [List.take_add_one, List.take_add_one, ht]
  simp only [List.getD_eq_getElem?_getD, List.getElem?_eq_getElem h, List.getElem?_eq_getElem hb, Option.getD_some] at he ⊢
  rw [he]
theorem eq8 (A : Option Addr) (n c : Nat) (B : Option Addr) (m d : Nat) (l r : List UInt8) (w : World) (h : R8 w w.heap.size A n c l) (k : R8 w w.heap.size B m d r) (hN : n ≤ 140737488355328) :
    Calls Try.prog 24 #[.slice A n c, .slice B m d] w fun e w' => e = .returned (.bool (l == r)) ∧ Below w.heap.size w w' := by
  have hl := h.1
  have hr := k.1
  go_enter Try.func24, Try.ntmps24
  by_cases e : n = m
  case neg =>
    have g : ((n : Int) != (m : Int)) = true := by simp; omega
    have e' : l ≠ r := fun h => e (by rw [← hl, ← hr, h])
    clear h k hl hr
    go_wp2_with fail
    go_ret
    exact ⟨by simp [e'], Below.refl _ _⟩
  have g : ((n : Int) != (m : Int)) = false := by simp; omega
  have hln := Lib.hid e
  have hl' := Lib.hid hl
  have hr' := Lib.hid hr
  clear e hl hr
  go_wp2_with fail
  clear g
  go_loopw [5, 13] (fun _ i wr => ∃ q : Nat, q ≤ n ∧ i = .int .i64 (q : Int) ∧ l.take q = r.take q ∧ ∃ k, wr = w.drewN k) (fun _ i _ => n - (intOf i).toNat)
  case atStart => exact ⟨0, by omega, rfl, by simp, 0, rfl⟩
  case round =>
    obtain ⟨q, hq, rfl, htk, z, rfl⟩ := hrel
    by_cases hlt : q < n
    · have g3 : decide ((q : Int) < (n : Int)) = true := by simp; omega
      have g4 : (q : Int) < (m : Int) := by have := hln.out; omega
      have g5 : (q : Int) < (n : Int) := by omega
      obtain ⟨x1, y1, rfl, z1, u1⟩ := h.2.2 (by omega)
      obtain ⟨x2, y2, rfl, z2, u2⟩ := k.2.2 (by have := hln.out; omega)
      have t1 := u1 q hlt
      have t2 := u2 q (by have := hln.out; omega)
      clear u1 u2 h k
      generalize hA : l.getD q 0 = a at t1
      generalize hB : r.getD q 0 = b at t2
      have hA' := Lib.hid hA
      have hB' := Lib.hid hB
      clear hA hB
      go_wp2_with fail
      go_quiet (fail)
      by_cases he : a = b
      · have g6 : ((a.toNat : Int) != (b.toNat : Int)) = false := by rw [he]; simp
        have he' := Lib.hid he
        clear he
        go_wp2_with fail
        refine ⟨⟨q + 1, by omega, by first | rfl | (congr 1; unfold wrap64; omega), ?_, _, rfl⟩, ?_⟩
        · exact take_succ_eq8 l r q (by have := hl'.out; omega) (by have := hl'.out; have := hr'.out; have := hln.out; omega) htk (hA'.out.trans (he'.out.trans hB'.out.symm))
        · simp only [intOf]; first | omega | (unfold wrap64; omega)
      · have g6 : ((a.toNat : Int) != (b.toNat : Int)) = true := by simp only [bne_iff_ne, ne_eq]; intro h; exact he (UInt8.toNat_inj.1 (by omega))
        have hne : l ≠ r := by rintro rfl; exact he (hA'.out.symm.trans hB'.out)
        clear htk
        go_wp2_with fail
        go_ret
        exact ⟨by simp [hne], (below_drewN8 _ _ _).trans (below_drewN8 _ _ _)⟩
    · have g3 : decide ((q : Int) < (n : Int)) = false := by simp; omega
      have hall : l = r := by
        rwa [List.take_of_length_le (by have := hl'.out; omega), List.take_of_length_le (by have := hr'.out; have := hln.out; omega)] at htk
      clear htk
      go_wp2_with fail
      go_ret
      exact ⟨by simp [hall], below_drewN8 _ _ _⟩
end Go.Proofs.Ytgjncaobcgjefaa
