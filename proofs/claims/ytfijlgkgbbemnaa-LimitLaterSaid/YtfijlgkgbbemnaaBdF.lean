/- limelightref13's Rate and Holds. -/
import Derived.Test.YtfijlgkgbbemnaaBdE
namespace Go.Proofs.Ytfijlgkgbbemnaa
open Go.RowKit
set_option linter.unusedVariables false
set_option linter.unusedSimpArgs false
set_option maxRecDepth 20000

/-- The least rate. -/
def minR (l : List Ln) : Nat := l.foldl (fun n t => min n t.r) 18446744073709551615
theorem minR_snoc (l : List Ln) (t : Ln) : minR (l ++ [t]) = min (minR l) t.r := by unfold minR; rw [List.foldl_append]; rfl
theorem foldR_le (l : List Ln) : ∀ n, l.foldl (fun n (t : Ln) => min n t.r) n ≤ n := by
  induction l with
  | nil => intro n; exact Nat.le_refl _
  | cons x r ih => intro n; have := ih (min n x.r); rw [List.foldl_cons]; omega
theorem minR_le (l : List Ln) : minR l ≤ 18446744073709551615 := foldR_le l _
theorem letA_snoc (n X : Nat) (l : List Ln) (t : Ln) : letA n X (l ++ [t]) = min (letA n X l) (letL X t) := by
  induction l with
  | nil => show min (letL X t) n = min n (letL X t); omega
  | cons x r ih => show min (letL X x) (letA n X (r ++ [t])) = min (min (letL X x) (letA n X r)) (letL X t); rw [ih]; omega
/-- What Rate answers. -/
def rateV (ls : List Ln) : Value := if ls.length = 0 then .tuple #[.int .u64 0, .bool false] else .tuple #[.int .u64 ((minR ls : Nat) : Int), .bool true]
theorem rateV_no {ls : List Ln} (h : ls.length = 0) : rateV ls = .tuple #[.int .u64 0, .bool false] := if_pos h
theorem rateV_yes {ls : List Ln} (h : ls.length ≠ 0) : rateV ls = .tuple #[.int .u64 ((minR ls : Nat) : Int), .bool true] := if_neg h
set_option maxHeartbeats 4000000 in
theorem ref_rate13 (A : Option Addr) (n c : Nat) (l : List Tup) (w : World) (h : RT w w.heap.size A n c l) (hn : n ≤ 1000000) :
    Calls Try.prog 39 #[.slice A n c] w (AnsB (rateV (heldR l)) w) := by
  have hc := ref_all A n c l w h hn
  have hli := heldR_in h.2.1
  have hll : (heldR l).length = n := by rw [← h.1]; exact List.length_map ..
  obtain ⟨ls, hls⟩ : ∃ ls, ls = heldR l := ⟨_, rfl⟩
  rw [← hls] at hc hli hll
  have HLS := Lib.hid hls
  have HI := Lib.hid hli
  have HL := Lib.hid hll
  clear h hli hls hll
  go_enter Try.func39, Try.ntmps39
  go_wp2_with fail
  ((with_reducible refine hc.mono ?_); rintro e W1 ⟨v1, rfl, o1, b1⟩)
  obtain ⟨A1, c1, rfl, r1, _⟩ := o1.rt (unR_in HI.out)
  rw [List.length_map, HL.out] at r1
  rw [List.length_map, HL.out]
  have HR := Lib.hid r1
  have HB1 := Lib.hid b1
  clear hc o1 r1 b1
  go_wp2_with fail
  go_loopw [4, 10] (fun v i wr => ∃ q : Nat, q ≤ n ∧ i = .int .i64 (q : Int) ∧ v = .int .u64 ((minR (ls.take q) : Nat) : Int) ∧ Hid (Below W1.heap.size W1 wr)) (fun _ i _ => n - (intOf i).toNat)
  case atStart => exact ⟨0, by omega, rfl, rfl, Lib.hid (Below.refl _ _)⟩
  case round =>
    obtain ⟨q, hq, rfl, rfl, HM⟩ := hrel
    by_cases hlt : q < n
    · have hql : q < ls.length := by rw [HL.out]; exact hlt
      obtain ⟨bA, off, rfl, hbA, c0, c1', c2⟩ := (HR.out.below HM.out).at (q := q) (by simpa using hql)
      simp only [List.getElem_map] at c0 c1' c2
      have HT : Hid (ls.take (q + 1) = ls.take q ++ [ls[q]]) := Lib.hid (List.take_succ_eq_append_getElem hql)
      have hti := HI.out ls[q] (List.getElem_mem hql)
      generalize ls[q] = t at c0 c1' c2 HT hti
      obtain ⟨to_, tr, tv⟩ := t
      obtain ⟨ht1, ht2, ht3⟩ := hti
      replace c0 : wr.cell? ⟨bA, off + q * 3, none⟩ = some (.int .u32 (to_ : Int)) := c0
      replace c1' : wr.cell? ⟨bA, off + q * 3 + 1, none⟩ = some (.int .u64 (tr : Int)) := c1'
      replace c2 : wr.cell? ⟨bA, off + q * 3 + 2, none⟩ = some (.int .i64 (tv : Int)) := c2
      simp only at ht1 ht2 ht3
      have HB9 : Hid (Below W1.heap.size W1 (wr.alloc (.cells #[.int .u32 (to_ : Int), .int .u64 (tr : Int), .int .i64 (tv : Int)] 31))) := Lib.hid (HM.out.trans ((belowA wr _).mono HM.out.size))
      have g1 : (q : Int) < (n : Int) := by omega
      clear hbA hql hlt ht1 HM
      have hs : minR (ls.take (q + 1)) = min (minR (ls.take q)) tr := by rw [HT.out, minR_snoc]
      have HS := Lib.hid hs
      have hm9 := minR_le (ls.take q)
      clear hs
      generalize minR (ls.take q) = m at *
      by_cases hmr : m ≤ tr
      · have z2 : (m : Int) ≤ (tr : Int) := by omega
        have z3 : ¬ tr < m := by omega
        have HE : Hid (minR (ls.take (q + 1)) = m) := Lib.hid (by rw [HS.out]; omega)
        go_wp2_with fail
        go_roundw
        case rel => exact ⟨q + 1, by omega, by go_num, by rw [HE.out] <;> rfl, HB9⟩
        case measure => simp [intOf]; omega
      · have z2 : ¬ (m : Int) ≤ (tr : Int) := by omega
        have z3 : tr < m := by omega
        have HE : Hid (minR (ls.take (q + 1)) = tr) := Lib.hid (by rw [HS.out]; omega)
        go_wp2_with fail
        go_roundw
        case rel => exact ⟨q + 1, by omega, by go_num, by rw [HE.out] <;> rfl, HB9⟩
        case measure => simp [intOf]; omega
    · have hqn : q = n := by omega
      have HE : Hid (ls.take q = ls) := Lib.hid (List.take_of_length_le (by rw [HL.out]; omega))
      have z1 : ¬ (q : Int) < (n : Int) := by omega
      have HBW := Lib.hid (HB1.out.trans (HM.out.mono HB1.out.size))
      rw [HE.out]
      clear hlt HM
      by_cases h0 : n = 0
      · subst h0
        have HV : Hid (rateV (heldR l) = .tuple #[.int .u64 0, .bool false]) := Lib.hid (rateV_no (by rw [← HLS.out]; exact HL.out))
        go_wp2_with fail
        go_ret2
        exact ⟨by rw [HV.out]; rfl, HBW.out⟩
      · have h0i : ((n : Int) == 0) = false := by rw [beq_eq_false_iff_ne]; omega
        have h0n : ¬ n = 0 := h0
        have HV : Hid (rateV (heldR l) = .tuple #[.int .u64 ((minR ls : Nat) : Int), .bool true]) := Lib.hid (by rw [← HLS.out]; exact rateV_yes (by rw [HL.out]; exact h0))
        generalize minR ls = m at *
        go_wp2_with fail
        go_ret2
        exact ⟨by rw [HV.out]; rfl, HBW.out⟩
end Go.Proofs.Ytfijlgkgbbemnaa
