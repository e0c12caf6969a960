/- Contracts: limelightref9's bucket: New, Tick, Take, Set, Wait. -/
import Derived.Test.YtdjopbhjfnakdaaCkR
import Derived.Test.YtdjopbhjfnakdaaDr
import Derived.StillTailTactics
import Derived.StillTactics
import Derived.Deep.CutRange
import Derived.BigQuiet
import Derived.Deep.QuietTactic
namespace Go.Proofs.Ytdjopbhjfnakdaa
open Go.RowKit
set_option linter.unusedVariables false
set_option linter.unusedSimpArgs false
set_option maxRecDepth 20000

def heldN (n : Int) : Nat := min (po n) 1099511627776
theorem ref_held (a : Int) (ha : I64 a) (w : World) : Calls Try.prog 37 #[.int .i64 a] w (Sti (.int .i64 (heldN a : Nat)) w) := by
  have HE : Hid (heldN a = min (po a) 1099511627776) := Lib.hid rfl
  generalize heldN a = E at HE ⊢
  have hc : a < 0 ∨ (0 ≤ a ∧ a ≤ 1099511627776) ∨ 1099511627776 < a := by omega
  rcases hc with h | h | h
  · have hE : E = 0 := by rw [HE.out]; unfold po; omega
    subst hE
    go_enter Try.func37, Try.ntmps37
    have h2 : a < 1099511627776 := by omega
    go_wp2_with fail
    go_ret
    exact ⟨rfl, rfl⟩
  · obtain ⟨x, rfl⟩ : ∃ x : Nat, a = (x : Int) := ⟨a.toNat, by omega⟩
    have hE : E = x := by rw [HE.out]; unfold po; omega
    subst hE
    have hm : (if (1099511627776 : Int) < (E : Int) then (1099511627776 : Int) else (E : Int)) = (E : Int) := by split <;> omega
    have hm' : (if (E : Int) < 1099511627776 then (E : Int) else (1099511627776 : Int)) = (E : Int) := by split <;> omega
    go_enter Try.func37, Try.ntmps37
    go_wp2_with fail
    go_ret
    exact ⟨rfl, rfl⟩
  · have hE : E = 1099511627776 := by rw [HE.out]; unfold po; omega
    subst hE
    have h2 : ¬ a ≤ 1099511627776 := by omega
    have h3 : ¬ a < 1099511627776 := by omega
    go_enter Try.func37, Try.ntmps37
    go_wp2_with fail
    go_ret
    exact ⟨rfl, rfl⟩
/-- A bucket in memory: its rate, its burst, its level in millionths. -/
def BkAt (w : World) (g r u l : Nat) : Prop := Blk w g 52 #[.int .i64 (r : Int), .int .i64 (u : Int), .int .i64 (l : Int)]
structure BkOk (r u l : Nat) : Prop where
  rate : r ≤ 1099511627776
  burst : u ≤ 1099511627776
  level : l ≤ u * 1000000
def tickN (r u l : Nat) (us : Int) : Nat := min (addC l (mulC r us)) (u * 1000000)
def takeB (l : Nat) (n : Int) : Bool := decide (0 ≤ n ∧ n ≤ (l / 1000000 : Nat))
def waitN (r u l : Nat) (n : Int) : Int := if 0 ≤ n ∧ n ≤ (l / 1000000 : Nat) then 0 else if n < 0 ∨ (u : Int) < n ∨ r = 0 then -1 else (overC (n * 1000000 - l) r : Nat)
theorem heldN_le (n : Int) : heldN n ≤ 1099511627776 := by unfold heldN; omega
theorem tick_ok {r u l : Nat} (h : BkOk r u l) (us : Int) : BkOk r u (tickN r u l us) := ⟨h.rate, h.burst, by unfold tickN; omega⟩
theorem i64_nat (n : Nat) (h : n ≤ 9223372036854775807) : I64 (n : Int) := by unfold I64; omega
theorem run_st {f : FuncId} {args : Array Value} {v : Value} {w : World} {e : Ending} {w' : World} (h : Sti v w e w') : e = .returned v ∧ w' = w := ⟨h.1, h.2.symm⟩
theorem below_alloc9 (w : World) (o : Obj) : Below w.heap.size w (w.alloc o) := (Below.refl _ _).alloc (Nat.le_refl _) _
theorem BkAt.only {w w' : World} {g g' r u l : Nat} (h : BkAt w g r u l) (ho : Only g' w w') (hne : g ≠ g') : BkAt w' g r u l := (ho.block g (Blk.lt h) hne).trans h
theorem BkAt.lt {w : World} {g r u l : Nat} (h : BkAt w g r u l) : g < w.heap.size := Blk.lt h
theorem BkAt.on {w w' : World} {g r u l : Nat} (h : BkAt w g r u l) (hb : Below w.heap.size w w') : BkAt w' g r u l := (hb.block g (Blk.lt h)).trans h
/-- What a method leaves that turns its bucket. -/
def BkOut (g r u l : Nat) (v : Value) (w : World) (e : Ending) (w' : World) : Prop := e = .returned v ∧ BkAt w' g r u l ∧ Only g w w'
theorem ref_tick (g r u l : Nat) (us : Int) (w : World) (h : BkAt w g r u l) (ok : BkOk r u l) (hus : I64 us) : Calls Try.prog 20 #[.pointer (some ⟨g, 0, none⟩), .int .i64 us] w (BkOut g r u (tickN r u l us) (.tuple #[]) w) := by
  obtain ⟨okr, oku, okl⟩ := ok
  have hm := mulC_le r us
  have m1 := ref_mul (r : Int) us (i64_nat r (by omega)) hus
  have m2 := ref_add (l : Int) (mulC r us : Nat) (i64_nat l (by omega)) (i64_nat _ hm)
  have ha := addC_le l (mulC r us)
  have HT : Hid (tickN r u l us = min (addC l (mulC r us)) (u * 1000000)) := Lib.hid rfl
  generalize tickN r u l us = T at HT ⊢
  generalize mulC r us = M at *
  generalize addC l M = S at *
  have hu6 : u * 1000000 ≤ 1099511627776000000 := by omega
  have yu : IntKind.i64.wrap ((u : Int) * 1000000) = ((u * 1000000 : Nat) : Int) := by rw [IntKind.wrap_i64]; omega
  generalize u * 1000000 = U at *
  have hTU : (S ≤ U → T = S) ∧ (U < S → T = U) := by have := HT.out; omega
  clear HT
  have hB : BkAt (w.setCell ⟨g, 2, none⟩ (.int .i64 (T : Int))).drew g r u T := by
    have := Blk.set_ h 2 (.int .i64 (T : Int))
    have this' : Blk (w.setCell ⟨g, 2, none⟩ (.int .i64 (T : Int))) g 52 #[.int .i64 (r : Int), .int .i64 (u : Int), .int .i64 (T : Int)] := by simpa only [List.setIfInBounds_toArray, List.set_cons_succ, List.set_cons_zero] using this
    exact this'.drew
  have hO := (Only.set g 2 w (.int .i64 (T : Int))).drew
  have HB := Lib.hid hB
  clear hB
  unfold BkAt at h
  obtain ⟨⟨k0, k1, k2⟩, f0, f1, f2⟩ : (w.cell? ⟨g, 0, none⟩ = some (.int .i64 (r : Int)) ∧ w.cell? ⟨g, 1, none⟩ = some (.int .i64 (u : Int)) ∧ w.cell? ⟨g, 2, none⟩ = some (.int .i64 (l : Int))) ∧ w.frozen? ⟨g, 0, none⟩ = false ∧ w.frozen? ⟨g, 1, none⟩ = false ∧ w.frozen? ⟨g, 2, none⟩ = false := ⟨⟨h.cell 0, h.cell 1, h.cell 2⟩, h.frozen 0, h.frozen 1, h.frozen 2⟩
  have k0 : w.drew.cell? ⟨g, 0, none⟩ = some (.int .i64 (r : Int)) := k0
  have k1 : w.drew.cell? ⟨g, 1, none⟩ = some (.int .i64 (u : Int)) := k1
  have k2 : w.drew.cell? ⟨g, 2, none⟩ = some (.int .i64 (l : Int)) := k2
  have f2 : w.drew.frozen? ⟨g, 2, none⟩ = false := f2
  have n1 := (m1 w.drew).mono fun e w' h => (⟨h.1, h.2.symm⟩ : e = .returned _ ∧ w' = w.drew)
  have n2 := (m2 w.drew).mono fun e w' h => (⟨h.1, h.2.symm⟩ : e = .returned _ ∧ w' = w.drew)
  clear m1 m2 h okr oku okl hu6 hm ha f0 f1
  go_enter Try.func20, Try.ntmps20
  go_upto_region 0 with (fail)
  go_still_tail 20, (by kernel_rfl)
  still_call n1
  repeat still_step
  still_call n2
  repeat still_step
  refine wpStill_nil ?_
  change wpList _ _ _ _ _ w.drew
  by_cases hc : U < S
  · have hT := hTU.2 hc
    subst hT
    have c1 : (T : Int) < (S : Int) := by omega
    have c2 : ¬ (S : Int) ≤ (T : Int) := by omega
    clear hTU
    go_wp2
    refine bodyPost_end (results_none Try.results20 _ _ _) rfl ?_
    exact ⟨rfl, HB.out, hO⟩
  · have hT := hTU.1 (by omega)
    subst hT
    have c1 : ¬ (U : Int) < (T : Int) := by omega
    have c2 : (T : Int) ≤ (U : Int) := by omega
    clear hTU
    go_wp2
    refine bodyPost_end (results_none Try.results20 _ _ _) rfl ?_
    exact ⟨rfl, HB.out, hO⟩
theorem ref_set (g r u l : Nat) (rate : Int) (w : World) (h : BkAt w g r u l) (hr : I64 rate) : Calls Try.prog 22 #[.pointer (some ⟨g, 0, none⟩), .int .i64 rate] w (BkOut g (heldN rate) u l (.tuple #[]) w) := by
  have m1 := ref_held rate hr
  generalize heldN rate = T at m1 ⊢
  have hB : BkAt (w.setCell ⟨g, 0, none⟩ (.int .i64 (T : Int))) g T u l := by
    have := Blk.set_ h 0 (.int .i64 (T : Int))
    have this' : Blk (w.setCell ⟨g, 0, none⟩ (.int .i64 (T : Int))) g 52 #[.int .i64 (T : Int), .int .i64 (u : Int), .int .i64 (l : Int)] := by simpa only [List.setIfInBounds_toArray, List.set_cons_succ, List.set_cons_zero] using this
    exact this'
  have hO := Only.set g 0 w (.int .i64 (T : Int))
  have k0 : w.cell? ⟨g, 0, none⟩ = some (.int .i64 (r : Int)) := Blk.cell h 0
  have f0 : w.frozen? ⟨g, 0, none⟩ = false := Blk.frozen h 0
  have HB := Lib.hid hB
  clear hB h
  go_enter Try.func22, Try.ntmps22
  go_wp2_with fail
  refine (m1 w).mono ?_
  rintro e w' ⟨rfl, rfl⟩
  go_wp2_with fail
  refine bodyPost_end (results_none Try.results22 _ _ _) rfl ?_
  exact ⟨rfl, HB.out, hO⟩
def takeL (l : Nat) (n : Int) : Nat := if takeB l n = true then l - n.toNat * 1000000 else l
theorem take_ok {r u l : Nat} (h : BkOk r u l) (n : Int) : BkOk r u (takeL l n) := ⟨h.rate, h.burst, by have := h.level; unfold takeL; split <;> omega⟩
theorem ref_take (g r u l : Nat) (n : Int) (w : World) (h : BkAt w g r u l) (ok : BkOk r u l) (hn : I64 n) : Calls Try.prog 33 #[.pointer (some ⟨g, 0, none⟩), .int .i64 n] w (BkOut g r u (takeL l n) (.bool (takeB l n)) w) := by
  have hl := ok.level
  have hu := ok.burst
  have k2 : w.cell? ⟨g, 2, none⟩ = some (.int .i64 (l : Int)) := Blk.cell h 2
  have f2 : w.frozen? ⟨g, 2, none⟩ = false := Blk.frozen h 2
  have HB0 := Lib.hid h
  by_cases hn0 : n < 0
  · have t0 : decide (n < 0) = true := by simpa using hn0
    have e1 : takeB l n = false := by unfold takeB; rw [decide_eq_false (by omega)]
    have e2 : takeL l n = l := by unfold takeL; rw [e1]; rfl
    rw [e1, e2]
    clear e1 e2 h ok
    go_enter Try.func33, Try.ntmps33
    go_wp2_with fail
    go_ret
    exact ⟨rfl, HB0.out, Only.refl _ _⟩
  obtain ⟨m, rfl⟩ : ∃ m : Nat, n = (m : Int) := ⟨n.toNat, by omega⟩
  have hd : (l : Int).tdiv 1000000 = ((l / 1000000 : Nat) : Int) := by rw [Int.tdiv_eq_ediv_of_nonneg (by omega)]; rfl
  have hd2 : (l : Int) / 1000000 = ((l / 1000000 : Nat) : Int) := by omega
  by_cases hm : l / 1000000 < m
  · have e1 : takeB l m = false := by unfold takeB; rw [decide_eq_false (by omega)]
    have e2 : takeL l m = l := by unfold takeL; rw [e1]; rfl
    rw [e1, e2]
    generalize l / 1000000 = D at *
    have t1 : decide ((D : Int) < (m : Int)) = true := by simp; omega
    have t2 : (D : Int) < (m : Int) := by omega
    have yD : IntKind.i64.wrap (D : Int) = (D : Int) := i64_nn _ (by unfold I64 at hn; omega)
    clear e1 e2 h ok
    go_enter Try.func33, Try.ntmps33
    go_wp2_with fail
    go_ret
    exact ⟨rfl, HB0.out, Only.refl _ _⟩
  · have e1 : takeB l m = true := by unfold takeB; rw [decide_eq_true (by omega)]
    have e2 : takeL l m = l - m * 1000000 := by unfold takeL; rw [if_pos e1]; rfl
    rw [e1, e2]
    have hml : m * 1000000 ≤ l := by omega
    have y1 : IntKind.i64.wrap ((m : Int) * 1000000) = ((m * 1000000 : Nat) : Int) := by rw [IntKind.wrap_i64]; omega
    have y2 : IntKind.i64.wrap ((l : Int) - ((m * 1000000 : Nat) : Int)) = ((l - m * 1000000 : Nat) : Int) := by rw [IntKind.wrap_i64]; omega
    have yD : IntKind.i64.wrap ((l / 1000000 : Nat) : Int) = ((l / 1000000 : Nat) : Int) := i64_nn _ (by omega)
    obtain ⟨M, hM⟩ : ∃ M, M = m * 1000000 := ⟨_, rfl⟩
    rw [← hM] at y1 y2 hml ⊢
    obtain ⟨T, hT⟩ : ∃ T, T = l - M := ⟨_, rfl⟩
    rw [← hT] at y2 ⊢
    obtain ⟨D, hD⟩ : ∃ D, D = l / 1000000 := ⟨_, rfl⟩
    rw [← hD] at hd hd2 yD hm
    clear hM hT hD
    have t1 : decide ((D : Int) < (m : Int)) = false := by simp; omega
    have t2 : ¬ (D : Int) < (m : Int) := by omega
    have hB : BkAt (w.setCell ⟨g, 2, none⟩ (.int .i64 (T : Int))) g r u T := by
      have := Blk.set_ h 2 (.int .i64 (T : Int))
      have this' : Blk (w.setCell ⟨g, 2, none⟩ (.int .i64 (T : Int))) g 52 #[.int .i64 (r : Int), .int .i64 (u : Int), .int .i64 (T : Int)] := by simpa only [List.setIfInBounds_toArray, List.set_cons_succ, List.set_cons_zero] using this
      exact this'
    have hO := Only.set g 2 w (.int .i64 (T : Int))
    have HB := Lib.hid hB
    clear e1 e2 h ok hB
    go_enter Try.func33, Try.ntmps33
    go_wp2_with fail
    go_ret
    exact ⟨rfl, HB.out, hO⟩
def BkNew (r u l : Nat) (w : World) (e : Ending) (w' : World) : Prop := ∃ g, e = .returned (.pointer (some ⟨g, 0, none⟩)) ∧ BkAt w' g r u l ∧ w.heap.size ≤ g ∧ Below w.heap.size w w'
theorem new_ok (a b : Int) : BkOk (heldN a) (heldN b) (heldN b * 1000000) := ⟨heldN_le a, heldN_le b, Nat.le_refl _⟩
theorem ref_new (a b : Int) (ha : I64 a) (hb : I64 b) (w : World) : Calls Try.prog 32 #[.int .i64 a, .int .i64 b] w (BkNew (heldN a) (heldN b) (heldN b * 1000000) w) := by
  have m1 := ref_held a ha
  have m2 := ref_held b hb
  have hu := heldN_le b
  generalize heldN a = r at m1 ⊢
  generalize heldN b = u at m2 hu ⊢
  have yu : IntKind.i64.wrap ((u : Int) * 1000000) = ((u * 1000000 : Nat) : Int) := by rw [IntKind.wrap_i64]; omega
  have HU := Lib.hid (rfl : u * 1000000 = u * 1000000)
  generalize u * 1000000 = U at yu ⊢
  have HB := Lib.hid (show BkAt (w.alloc (.cells #[.int .i64 (r : Int), .int .i64 (u : Int), .int .i64 (U : Int)] 52)) w.heap.size r u U from Blk.new w _ _)
  have HB2 := Lib.hid (below_alloc9 w (.cells #[.int .i64 (r : Int), .int .i64 (u : Int), .int .i64 (U : Int)] 52))
  go_enter Try.func32, Try.ntmps32
  go_wp2_with fail
  refine (m1 w).mono ?_
  rintro e w' ⟨rfl, rfl⟩
  go_wp2_with fail
  refine (m2 _).mono ?_
  rintro e w' ⟨rfl, rfl⟩
  go_wp2_with fail
  go_ret
  exact ⟨_, rfl, HB.out, Nat.le_refl _, HB2.out⟩
end Go.Proofs.Ytdjopbhjfnakdaa
