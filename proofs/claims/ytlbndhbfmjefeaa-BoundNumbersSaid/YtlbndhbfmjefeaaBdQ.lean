/- Law 13's helper: known. -/
import Derived.Test.YtlbndhbfmjefeaaBdK
namespace Go.Proofs.Ytlbndhbfmjefeaa
open Go.RowKit
set_option linter.unusedVariables false
set_option linter.unusedSimpArgs false
set_option maxRecDepth 20000

def kT : List Tup := [⟨1, 1000, 10⟩, ⟨2, 1500, 40⟩, ⟨3, 9000, 20⟩]
theorem kT_held : heldR kT = [⟨1, 1000, 10⟩, ⟨2, 1500, 40⟩, ⟨3, 9000, 20⟩] := rfl
theorem k_least : IsLeast (heldR kT) ⟨1, 1000, 10⟩ := by
  rw [kT_held]
  exact ⟨by simp, by simp [fstL]⟩
theorem k_next : IsNext (heldR kT) ⟨1, 1000, 10⟩ ⟨2, 1500, 40⟩ := by
  rw [kT_held]
  exact ⟨by simp, by simp [Cand], by simp [Cand, betterL]⟩
theorem k_set : BSet (heldR kT) [⟨1, 1000, 10⟩, ⟨2, 1500, 40⟩] := by
  refine .inr ⟨⟨1, 1000, 10⟩, k_least, .more k_next (by unfold above; decide) (.stop fun b hb => ?_)⟩
  obtain ⟨hm, hc, _⟩ := hb
  rw [kT_held] at hm
  exfalso
  simp only [List.mem_cons, List.not_mem_nil, or_false] at hm
  rcases hm with rfl | rfl | rfl <;> simp [Cand] at hc
theorem nil_set : BSet (heldR []) [] := .inl ⟨rfl, rfl⟩
theorem kT_in : ∀ t ∈ kT, t.In := by
  intro t ht
  simp only [kT, List.mem_cons, List.not_mem_nil, or_false] at ht
  rcases ht with rfl | rfl | rfl <;> exact ⟨by decide, by decide, by unfold I64; decide⟩
/-- A literal row of tuples reads as it. -/
theorem lit_rt {w : World} {g : Nat} {l : List Tup} {cs : Array Value} (h : Blk w g 30 cs) (hc : cs.toList = cellsT l) (hi : ∀ t ∈ l, t.In) : RT w w.heap.size (some ⟨g, 0, none⟩) l.length l.length l := by
  refine ⟨rfl, hi, ⟨cellsT_len l, Nat.le_refl _, fun _ => ⟨g, 0, rfl, h.lt, fun j v hj => ?_⟩⟩⟩
  rw [Nat.zero_add, h.cell j, ← Array.getElem?_toList, hc, hj]
theorem ansB_at {v v' : Value} {w w' : World} {e : Ending} (h : AnsB v w e w') (hv : v = v') : AnsB v' w e w' := hv ▸ h
section
variable {A : Option Addr} {n c : Nat} {l : List Tup} {w : World}
theorem bd_holds_at (h : RT w w.heap.size A n c l) (hn : n ≤ 100000) {p : Nat} {P x : Int} (hP : (p : Int) = P) (hp : p < 18446744073709551616) (hx : ((letA 18446744073709551615 (8 * min p 4294967296) (heldR l) : Nat) : Int) = x) : Calls Try.prog 13 #[.slice A n c, .int .u64 P] w (AnsB (.int .u64 x) w) := by
  subst hP hx
  exact bd_holds h hn hp
theorem bd_owns_at (h : RT w w.heap.size A n c l) (hn : n ≤ 100000) {o : Nat} {O : Int} (hO : (o : Int) = O) (ho : o < 4294967296) {R : List Ln} (hR : BSet (heldR l) R) {x : Bool} (hx : (R.any fun t => t.o == o) = x) : Calls Try.prog 19 #[.slice A n c, .int .u32 O] w (AnsB (.bool x) w) := by
  subst hO hx
  refine (bd_owns h hn ho).mono ?_
  rintro e w' ⟨R', hR', rfl, hb⟩
  rw [bset_one hR hR']
  exact ⟨rfl, hb⟩
/-- What Set answers, of a row whose answer is known. -/
theorem bd_set_at (h : RT w w.heap.size A n c l) (hn : n ≤ 100000) {R : List Ln} (hR : BSet (heldR l) R) {m : Nat} (hm : R.length = m) : Calls Try.prog 12 #[.slice A n c] w (fun e w' => ∃ A' c', e = .returned (.slice A' m c') ∧ RT w' w'.heap.size A' m c' (R.map unT) ∧ Below w.heap.size w w' ∧ OwnTp w' w.heap.size (.slice A' m c') (R.map unT)) := by
  refine (bd_set h hn).mono ?_
  rintro e w' ⟨v, R', rfl, hR', ow, hb⟩
  rw [bset_one hR' hR] at ow
  have hi : ∀ x ∈ R.map unT, x.In := unR_in (fun a ha => heldR_in h.2.1 a (bset_sub hR a ha))
  obtain ⟨A', c', rfl, r, _⟩ := ow.rt hi
  rw [List.length_map, hm] at r ow ⊢
  exact ⟨A', c', rfl, r, hb, ow⟩
theorem bd_rate_at (h : RT w w.heap.size A n c l) (hn : n ≤ 100000) {x : Value} (hx : rateV (heldR l) = x) : Calls Try.prog 16 #[.slice A n c] w (AnsB x w) := by
  subst hx
  exact bd_rate h hn
end
theorem k_rate : rateV (heldR kT) = .tuple #[.int .u64 1000, .bool true] := by rw [rateV_yes (by decide)]; rfl
theorem nil_rate : rateV (heldR []) = .tuple #[.int .u64 0, .bool false] := rateV_no rfl
set_option maxHeartbeats 4000000 in
theorem known13_any (w : World) : Calls Try.prog 11 #[] w (Yes w) := by
  have H0 : Hid (∀ W, Below (w.heap.size + 1) (w.alloc (.cells #[.int .u32 1, .int .u64 1000, .int .i64 10, .int .u32 2, .int .u64 1500, .int .i64 40, .int .u32 3, .int .u64 9000, .int .i64 20] 30)) W → RT W W.heap.size (some ⟨w.heap.size, 0, none⟩) 3 3 kT) := Lib.hid (fun W hb => by
    have h := lit_rt (w := w.alloc (.cells #[.int .u32 1, .int .u64 1000, .int .i64 10, .int .u32 2, .int .u64 1500, .int .i64 40, .int .u32 3, .int .u64 9000, .int .i64 20] 30)) (g := w.heap.size) (l := kT) (Blk.new _ _ _) rfl kT_in
    have hz : (w.alloc (.cells #[.int .u32 1, .int .u64 1000, .int .i64 10, .int .u32 2, .int .u64 1500, .int .i64 40, .int .u32 3, .int .u64 9000, .int .i64 20] 30)).heap.size = w.heap.size + 1 := by simp
    exact h.on (by rw [hz]; exact hb))
  have B0 : Hid (Below w.heap.size w (w.alloc (.cells #[.int .u32 1, .int .u64 1000, .int .i64 10, .int .u32 2, .int .u64 1500, .int .i64 40, .int .u32 3, .int .u64 9000, .int .i64 20] 30))) := Lib.hid (belowA w _)
  have HN : Hid (∀ W, RT W W.heap.size none 0 0 []) := Lib.hid (fun W => RT.nil _ _ _ _)
  have HZ : Hid ((w.alloc (.cells #[.int .u32 1, .int .u64 1000, .int .i64 10, .int .u32 2, .int .u64 1500, .int .i64 40, .int .u32 3, .int .u64 9000, .int .i64 20] 30)).heap.size = w.heap.size + 1) := Lib.hid (by simp)
  go_enter Try.func11, Try.ntmps11
  go_upto_region 2 with (fail)
  generalize hW0 : w.alloc (.cells #[.int .u32 1, .int .u64 1000, .int .i64 10, .int .u32 2, .int .u64 1500, .int .i64 40, .int .u32 3, .int .u64 9000, .int .i64 20] 30) = w0 at H0 B0 HZ ⊢
  clear hW0
  have HL := Lib.hid (fun W (hb : Below w0.heap.size w0 W) => H0.out W (by rw [← HZ.out]; exact hb))
  have HB := Lib.hid (⟨by rw [HZ.out]; omega, B0.out⟩ : w.heap.size ≤ w0.heap.size ∧ _)
  clear H0 B0 HZ
  go_wp2_with fail
  ((with_reducible refine (bd_set_at (HL.out _ (Below.refl _ _)) (by omega) k_set rfl).mono ?_); rintro e w1 ⟨A1, c1, rfl, r1, b1, _⟩)
  obtain ⟨b, off, rfl, hb, y0, _, _⟩ := r1.at (q := 0) (by simp)
  obtain ⟨b', off', e', _, z0, _, _⟩ := r1.at (q := 1) (by simp)
  injection e' with e'
  injection e' with e1 e2
  subst e1 e2
  have y0 : w1.cell? ⟨b, off, none⟩ = some (.int .u32 1) := y0
  have z0 : w1.cell? ⟨b, off + 3, none⟩ = some (.int .u32 2) := z0
  have HC := Lib.hid (fun W (hb' : Below w1.heap.size w1 W) => (⟨(hb'.cell (p := ⟨b, off, none⟩) hb).trans y0, (hb'.cell (p := ⟨b, off + 3, none⟩) hb).trans z0⟩ : W.cell? ⟨b, off, none⟩ = some (.int .u32 1) ∧ W.cell? ⟨b, off + 3, none⟩ = some (.int .u32 2)))
  have HW1 := Lib.hid b1
  clear y0 z0 hb r1 b1
  go_wp2_with fail
  ((with_reducible refine (bd_rate_at (HL.out _ HW1.out) (by omega) k_rate).mono ?_); rintro e w2 ⟨rfl, d2⟩)
  have HW2 := Lib.hid (⟨HW1.out.trans (d2.mono HW1.out.size), d2⟩ : _ ∧ _)
  clear d2
  go_wp2_with fail
  ((with_reducible refine (bd_rate_at (HN.out _) (by omega) nil_rate).mono ?_); rintro e w3 ⟨rfl, d3⟩)
  obtain ⟨y0, z0⟩ := HC.out w3 (HW2.out.2.trans (d3.mono HW2.out.2.size))
  have HW3 := Lib.hid (HW2.out.1.trans (d3.mono HW2.out.1.size))
  clear d3 HW2 HC
  go_wp2_with fail
  ((with_reducible refine (bd_set_at (HN.out _) (by omega) nil_set rfl).mono ?_); rintro e w4 ⟨A4, c4, rfl, _, d4, _⟩)
  have HW4 := Lib.hid (HW3.out.trans (d4.mono HW3.out.size))
  clear d4 HW3 y0 z0
  go_wp2_with fail
  ((with_reducible refine (bd_holds_at (p := 5) (P := 5) (x := 18446744073709551615) (HN.out _) (by omega) rfl (by omega) rfl).mono ?_); rintro e w5 ⟨rfl, d5⟩)
  have HW5 := Lib.hid (HW4.out.trans (d5.mono HW4.out.size))
  clear d5 HW4
  go_wp2_with fail
  ((with_reducible refine (bd_holds_at (p := 0) (P := 0) (x := 1000) (HL.out _ HW5.out) (by omega) rfl (by omega) rfl).mono ?_); rintro e w6 ⟨rfl, d6⟩)
  have HW6 := Lib.hid (HW5.out.trans (d6.mono HW5.out.size))
  clear d6 HW5
  go_wp2_with fail
  ((with_reducible refine (bd_holds_at (p := 4) (P := 4) (x := 220) (HL.out _ HW6.out) (by omega) rfl (by omega) rfl).mono ?_); rintro e w7 ⟨rfl, d7⟩)
  have HW7 := Lib.hid (HW6.out.trans (d7.mono HW6.out.size))
  clear d7 HW6
  go_wp2_with fail
  ((with_reducible refine (bd_owns_at (o := 2) (O := 2) (x := true) (HL.out _ HW7.out) (by omega) rfl (by omega) k_set rfl).mono ?_); rintro e w8 ⟨rfl, d8⟩)
  have HW8 := Lib.hid (HW7.out.trans (d8.mono HW7.out.size))
  clear d8 HW7
  go_wp2_with fail
  ((with_reducible refine (bd_owns_at (o := 3) (O := 3) (x := false) (HL.out _ HW8.out) (by omega) rfl (by omega) k_set rfl).mono ?_); rintro e w9 ⟨rfl, d9⟩)
  have HW9 := Lib.hid (HW8.out.trans (d9.mono HW8.out.size))
  clear d9 HW8
  go_wp2_with fail
  go_ret
  exact ⟨rfl, HB.out.2.trans (HW9.out.mono HB.out.1)⟩
end Go.Proofs.Ytlbndhbfmjefeaa
