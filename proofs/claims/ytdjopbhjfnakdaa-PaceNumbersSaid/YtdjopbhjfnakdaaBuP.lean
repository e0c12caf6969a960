/- Contracts: the project's bucket: New, Tick, Take, Rate, Level, Burst, Wait (project of round 10). -/
import Derived.Test.YtdjopbhjfnakdaaCkB
import Derived.Test.YtdjopbhjfnakdaaCkC
import Derived.BigQuiet
import Derived.Deep.QuietTactic
namespace Go.Proofs.Ytdjopbhjfnakdaa
open Go.RowKit
set_option linter.unusedVariables false
set_option linter.unusedSimpArgs false
set_option maxRecDepth 20000

theorem pk_held (a : Int) (ha : I64 a) (w : World) : Calls Try.prog 38 #[.int .i64 a] w (Sti (.int .i64 (heldN a : Nat)) w) := by
  have HE : Hid (heldN a = min (po a) 1099511627776) := Lib.hid rfl
  generalize heldN a = E at HE ⊢
  have hc : a < 0 ∨ (0 ≤ a ∧ a ≤ 1099511627776) ∨ 1099511627776 < a := by omega
  rcases hc with h | h | h
  · have hE : E = 0 := by rw [HE.out]; unfold po; omega
    subst hE
    go_enter Try.func38, Try.ntmps38
    have h2 : a < 1099511627776 := by omega
    go_wp2_with fail
    go_ret
    exact ⟨rfl, rfl⟩
  · obtain ⟨x, rfl⟩ : ∃ x : Nat, a = (x : Int) := ⟨a.toNat, by omega⟩
    have hE : E = x := by rw [HE.out]; unfold po; omega
    subst hE
    rcases Nat.eq_zero_or_pos E with h0 | h0
    · subst h0
      go_enter Try.func38, Try.ntmps38
      go_wp2_with fail
      go_ret
      exact ⟨rfl, rfl⟩
    have z1 : (0 : Int) < (E : Int) := by omega
    have z2 : ¬ (E : Int) < 0 := by omega
    have z3 : ¬ (E : Int) ≤ 0 := by omega
    clear HE h0
    have hm : (if (1099511627776 : Int) < (E : Int) then (1099511627776 : Int) else (E : Int)) = (E : Int) := by split <;> omega
    have hm' : (if (E : Int) < 1099511627776 then (E : Int) else (1099511627776 : Int)) = (E : Int) := by split <;> omega
    clear h
    go_enter Try.func38, Try.ntmps38
    go_wp2_with fail
    go_ret
    exact ⟨rfl, rfl⟩
  · have hE : E = 1099511627776 := by rw [HE.out]; unfold po; omega
    subst hE
    have h2 : ¬ a ≤ 1099511627776 := by omega
    have h3 : ¬ a < 1099511627776 := by omega
    go_enter Try.func38, Try.ntmps38
    go_wp2_with fail
    go_ret
    exact ⟨rfl, rfl⟩
/-- How many millionths n bytes are, as the program says it: held. -/
theorem pk_parts (n : Int) (hn : I64 n) (w : World) : Calls Try.prog 39 #[.int .i64 n] w (Sti (.int .i64 (mulC n 1000000 : Nat)) w) := by
  have m1 := clock_mul n 1000000 hn (by unfold I64; omega)
  generalize mulC n 1000000 = T at m1 ⊢
  go_enter Try.func39, Try.ntmps39
  go_wp2_with fail
  refine (m1 w).mono ?_
  rintro e w' ⟨rfl, rfl⟩
  go_wp2_with fail
  go_ret
  exact ⟨rfl, rfl⟩
theorem parts_small (n : Nat) (h : n ≤ 1099511627776) : mulC (n : Int) 1000000 = n * 1000000 := by
  unfold mulC po
  rw [Int.toNat_natCast, show (1000000 : Int).toNat = 1000000 from rfl]
  omega
theorem parts_le {l : Nat} (hl : l ≤ 1099511627776000000) (m : Nat) : mulC (m : Int) 1000000 ≤ l ↔ m ≤ l / 1000000 := by
  unfold mulC po
  rw [Int.toNat_natCast, show (1000000 : Int).toNat = 1000000 from rfl]
  omega
theorem parts_held {n : Nat} (h : n ≤ 1099511627776) (w : World) : Calls Try.prog 39 #[.int .i64 (n : Int)] w (Sti (.int .i64 ((n * 1000000 : Nat) : Int)) w) := by
  have := pk_parts (n : Int) (i64_nat n (by omega)) w
  rwa [parts_small n h] at this
def PkAt (w : World) (g r u l : Nat) : Prop := Blk w g 64 #[.int .i64 (r : Int), .int .i64 (u : Int), .int .i64 (l : Int)]
theorem PkAt.only {w w' : World} {g g' r u l : Nat} (h : PkAt w g r u l) (ho : Only g' w w') (hne : g ≠ g') : PkAt w' g r u l := (ho.block g (Blk.lt h) hne).trans h
theorem PkAt.lt {w : World} {g r u l : Nat} (h : PkAt w g r u l) : g < w.heap.size := Blk.lt h
theorem PkAt.on {w w' : World} {g r u l : Nat} (h : PkAt w g r u l) (hb : Below w.heap.size w w') : PkAt w' g r u l := (hb.block g (Blk.lt h)).trans h
theorem pk_has (g r u l : Nat) (n : Int) (w : World) (h : PkAt w g r u l) (ok : BkOk r u l) (hn : I64 n) : Calls Try.prog 40 #[.pointer (some ⟨g, 0, none⟩), .int .i64 n] w (Dn (.bool (takeB l n)) w) := by
  have hl := ok.level
  have hu := ok.burst
  have k2 : w.cell? ⟨g, 2, none⟩ = some (.int .i64 (l : Int)) := Blk.cell h 2
  by_cases hn0 : n < 0
  · have e1 : takeB l n = false := by unfold takeB; rw [decide_eq_false (by omega)]
    rw [e1]
    have t0 : decide (0 ≤ n) = false := by simp; omega
    have t1 : ¬ 0 ≤ n := by omega
    clear e1 h ok
    go_enter Try.func40, Try.ntmps40
    go_upto_region 1 with (fail)
    go_quiet (fail)
    go_wp2_with fail
    go_ret
    exact ⟨rfl, _, rfl⟩
  obtain ⟨m, rfl⟩ : ∃ m : Nat, n = (m : Int) := ⟨n.toNat, by omega⟩
  have e1 : takeB l m = decide (mulC (m : Int) 1000000 ≤ l) := by
    unfold takeB
    have := parts_le (l := l) (by omega) m
    by_cases hh : mulC (m : Int) 1000000 ≤ l
    · rw [decide_eq_true hh, decide_eq_true (by omega)]
    · rw [decide_eq_false hh, decide_eq_false (by omega)]
  rw [e1]
  have c1 := Lib.hid (fun k => pk_parts (m : Int) hn (w.drewN k))
  clear e1 h ok hn0
  generalize mulC (m : Int) 1000000 = T at *
  by_cases hc : T ≤ l
  · have t1 : decide (T ≤ l) = true := decide_eq_true hc
    have t2 : (T : Int) ≤ (l : Int) := by omega
    rw [t1]
    go_enter Try.func40, Try.ntmps40
    go_upto_region 1 with (fail)
    go_quiet (refine Calls.quiet_of_same ((c1.out _).mono fun _ _ h => ⟨h.1, h.2.symm⟩))
    go_wp2_with fail
    go_ret
    exact ⟨rfl, _, rfl⟩
  · have t1 : decide (T ≤ l) = false := decide_eq_false hc
    have t2 : ¬ (T : Int) ≤ (l : Int) := by omega
    rw [t1]
    go_enter Try.func40, Try.ntmps40
    go_upto_region 1 with (fail)
    go_quiet (refine Calls.quiet_of_same ((c1.out _).mono fun _ _ h => ⟨h.1, h.2.symm⟩))
    go_wp2_with fail
    go_ret
    exact ⟨rfl, _, rfl⟩
def PkOut (g r u l : Nat) (v : Value) (w : World) (e : Ending) (w' : World) : Prop := e = .returned v ∧ PkAt w' g r u l ∧ Only g w w'
theorem pk_tick (g r u l : Nat) (us : Int) (w : World) (h : PkAt w g r u l) (ok : BkOk r u l) (hus : I64 us) : Calls Try.prog 31 #[.pointer (some ⟨g, 0, none⟩), .int .i64 us] w (PkOut g r u (tickN r u l us) (.tuple #[]) w) := by
  obtain ⟨okr, oku, okl⟩ := ok
  have hm := mulC_le r us
  have m1 := clock_mul (r : Int) us (i64_nat r (by omega)) hus
  have m2 := clock_add (l : Int) (mulC r us : Nat) (i64_nat l (by omega)) (i64_nat _ hm)
  have ha := addC_le l (mulC r us)
  have HT : Hid (tickN r u l us = min (addC l (mulC r us)) (u * 1000000)) := Lib.hid rfl
  generalize tickN r u l us = T at HT ⊢
  generalize mulC r us = M at *
  generalize addC l M = S at *
  have hu6 : u * 1000000 ≤ 1099511627776000000 := by omega
  have m3 := fun w => parts_held (n := u) oku w
  generalize u * 1000000 = U at *
  have hTU : (S ≤ U → T = S) ∧ (U < S → T = U) := by have := HT.out; omega
  clear HT
  have hB : PkAt (w.setCell ⟨g, 2, none⟩ (.int .i64 (T : Int))).drew g r u T := by
    have := Blk.set_ h 2 (.int .i64 (T : Int))
    have this' : Blk (w.setCell ⟨g, 2, none⟩ (.int .i64 (T : Int))) g 64 #[.int .i64 (r : Int), .int .i64 (u : Int), .int .i64 (T : Int)] := by simpa only [List.setIfInBounds_toArray, List.set_cons_succ, List.set_cons_zero] using this
    exact this'.drew
  have hO := (Only.set g 2 w (.int .i64 (T : Int))).drew
  have HB := Lib.hid hB
  clear hB
  unfold PkAt at h
  obtain ⟨⟨k0, k1, k2⟩, f0, f1, f2⟩ : (w.cell? ⟨g, 0, none⟩ = some (.int .i64 (r : Int)) ∧ w.cell? ⟨g, 1, none⟩ = some (.int .i64 (u : Int)) ∧ w.cell? ⟨g, 2, none⟩ = some (.int .i64 (l : Int))) ∧ w.frozen? ⟨g, 0, none⟩ = false ∧ w.frozen? ⟨g, 1, none⟩ = false ∧ w.frozen? ⟨g, 2, none⟩ = false := ⟨⟨h.cell 0, h.cell 1, h.cell 2⟩, h.frozen 0, h.frozen 1, h.frozen 2⟩
  have k0 : w.drew.cell? ⟨g, 0, none⟩ = some (.int .i64 (r : Int)) := k0
  have k1 : w.drew.cell? ⟨g, 1, none⟩ = some (.int .i64 (u : Int)) := k1
  have k2 : w.drew.cell? ⟨g, 2, none⟩ = some (.int .i64 (l : Int)) := k2
  have f2 : w.drew.frozen? ⟨g, 2, none⟩ = false := f2
  have n1 := (m1 w.drew).mono fun e w' h => (⟨h.1, h.2.symm⟩ : e = .returned _ ∧ w' = w.drew)
  have n2 := (m2 w.drew).mono fun e w' h => (⟨h.1, h.2.symm⟩ : e = .returned _ ∧ w' = w.drew)
  have n3 := (m3 w.drew).mono fun e w' h => (⟨h.1, h.2.symm⟩ : e = .returned _ ∧ w' = w.drew)
  clear m1 m2 m3 h okr oku okl hu6 hm ha f0 f1
  go_enter Try.func31, Try.ntmps31
  go_upto_region 0 with (fail)
  go_still_tail 20, (by kernel_rfl)
  still_call n1
  repeat still_step
  still_call n2
  repeat still_step
  still_call n3
  repeat still_step
  refine wpStill_nil ?_
  change wpList _ _ _ _ _ w.drew
  by_cases hc : U < S
  · have hT := hTU.2 hc
    subst hT
    have c1 : (T : Int) < (S : Int) := by omega
    have c2 : ¬ (S : Int) ≤ (T : Int) := by omega
    clear hTU
    go_wp2
    refine bodyPost_end (results_none Try.results31 _ _ _) rfl ?_
    exact ⟨rfl, HB.out, hO⟩
  · have hT := hTU.1 (by omega)
    subst hT
    have c1 : ¬ (U : Int) < (T : Int) := by omega
    have c2 : (T : Int) ≤ (U : Int) := by omega
    clear hTU
    go_wp2
    refine bodyPost_end (results_none Try.results31 _ _ _) rfl ?_
    exact ⟨rfl, HB.out, hO⟩
theorem pk_rate (g r u l : Nat) (rate : Int) (w : World) (h : PkAt w g r u l) (hr : I64 rate) : Calls Try.prog 36 #[.pointer (some ⟨g, 0, none⟩), .int .i64 rate] w (PkOut g (heldN rate) u l (.tuple #[]) w) := by
  have m1 := pk_held rate hr
  generalize heldN rate = T at m1 ⊢
  have hB : PkAt (w.setCell ⟨g, 0, none⟩ (.int .i64 (T : Int))) g T u l := by
    have := Blk.set_ h 0 (.int .i64 (T : Int))
    have this' : Blk (w.setCell ⟨g, 0, none⟩ (.int .i64 (T : Int))) g 64 #[.int .i64 (T : Int), .int .i64 (u : Int), .int .i64 (l : Int)] := by simpa only [List.setIfInBounds_toArray, List.set_cons_succ, List.set_cons_zero] using this
    exact this'
  have hO := Only.set g 0 w (.int .i64 (T : Int))
  have k0 : w.cell? ⟨g, 0, none⟩ = some (.int .i64 (r : Int)) := Blk.cell h 0
  have f0 : w.frozen? ⟨g, 0, none⟩ = false := Blk.frozen h 0
  have HB := Lib.hid hB
  clear hB h
  go_enter Try.func36, Try.ntmps36
  go_wp2_with fail
  refine (m1 w).mono ?_
  rintro e w' ⟨rfl, rfl⟩
  go_wp2_with fail
  refine bodyPost_end (results_none Try.results36 _ _ _) rfl ?_
  exact ⟨rfl, HB.out, hO⟩
theorem pk_take (g r u l : Nat) (n : Int) (w : World) (h : PkAt w g r u l) (ok : BkOk r u l) (hn : I64 n) : Calls Try.prog 29 #[.pointer (some ⟨g, 0, none⟩), .int .i64 n] w (PkOut g r u (takeL l n) (.bool (takeB l n)) w) := by
  have hl := ok.level
  have hu := ok.burst
  have ch := pk_has g r u l n w h ok hn
  have HB0 := Lib.hid h
  cases e1 : takeB l n
  · have e2 : takeL l n = l := by unfold takeL; rw [e1]; rfl
    rw [e2]
    rw [e1] at ch
    clear e1 e2 h ok
    go_enter Try.func29, Try.ntmps29
    go_wp2_with fail
    refine ch.mono ?_
    rintro e W1 ⟨rfl, q, hW⟩
    have HP : Hid (PkAt W1 g r u l) := Lib.hid (by rw [hW]; exact HB0.out.on (belowDrewN w q))
    have HO : Hid (Only g w W1) := Lib.hid (by rw [hW]; exact Only.of (belowDrewN w q))
    clear hW ch
    go_wp2_with fail
    go_ret
    exact ⟨rfl, HP.out, HO.out⟩
  · have e2 : takeL l n = l - n.toNat * 1000000 := by unfold takeL; rw [if_pos e1]
    rw [e2]
    rw [e1] at ch
    obtain ⟨m, rfl⟩ : ∃ m : Nat, n = (m : Int) := ⟨n.toNat, by unfold takeB at e1; have := of_decide_eq_true e1; omega⟩
    have hm : m ≤ l / 1000000 := by unfold takeB at e1; have := of_decide_eq_true e1; omega
    rw [Int.toNat_natCast]
    have hml : m * 1000000 ≤ l := by omega
    have m3 := fun w => parts_held (n := m) (by omega) w
    have y2 : IntKind.i64.wrap ((l : Int) - ((m * 1000000 : Nat) : Int)) = ((l - m * 1000000 : Nat) : Int) := by rw [IntKind.wrap_i64]; omega
    obtain ⟨M, hM⟩ : ∃ M, M = m * 1000000 := ⟨_, rfl⟩
    rw [← hM] at y2 hml m3 ⊢
    obtain ⟨T, hT⟩ : ∃ T, T = l - M := ⟨_, rfl⟩
    rw [← hT] at y2 ⊢
    clear hM hT e1 e2 hm
    have M3 := Lib.hid m3
    clear m3 h ok
    go_enter Try.func29, Try.ntmps29
    go_wp2_with fail
    refine ch.mono ?_
    rintro e W1 ⟨rfl, q, hW⟩
    have h : PkAt W1 g r u l := by rw [hW]; exact HB0.out.on (belowDrewN w q)
    have HO : Hid (Only g w W1) := Lib.hid (by rw [hW]; exact Only.of (belowDrewN w q))
    clear hW ch HB0
    have hB : PkAt (W1.setCell ⟨g, 2, none⟩ (.int .i64 (T : Int))).drew g r u T := by
      have := Blk.set_ h 2 (.int .i64 (T : Int))
      have this' : Blk (W1.setCell ⟨g, 2, none⟩ (.int .i64 (T : Int))) g 64 #[.int .i64 (r : Int), .int .i64 (u : Int), .int .i64 (T : Int)] := by simpa only [List.setIfInBounds_toArray, List.set_cons_succ, List.set_cons_zero] using this
      exact this'.drew
    have hO := Lib.hid (HO.out.trans (Only.set g 2 W1 (.int .i64 (T : Int))).drew)
    have HB := Lib.hid hB
    have k2 : W1.drew.cell? ⟨g, 2, none⟩ = some (.int .i64 (l : Int)) := Blk.cell h 2
    have f2 : W1.drew.frozen? ⟨g, 2, none⟩ = false := Blk.frozen h 2
    have n1 := (M3.out W1.drew).mono fun e w' h => (⟨h.1, h.2.symm⟩ : e = .returned _ ∧ w' = W1.drew)
    clear hB h HO M3
    go_upto_region 3 with (fail)
    go_still_tail 9, (by kernel_rfl)
    still_call n1
    repeat still_step
    refine wpStill_nil ?_
    change wpList _ _ _ _ _ W1.drew
    clear n1
    go_wp2
    go_ret
    exact ⟨rfl, HB.out, hO.out⟩
def PkNew (r u l : Nat) (w : World) (e : Ending) (w' : World) : Prop := ∃ g, e = .returned (.pointer (some ⟨g, 0, none⟩)) ∧ PkAt w' g r u l ∧ w.heap.size ≤ g ∧ Below w.heap.size w w'
theorem pk_new (a b : Int) (ha : I64 a) (hb : I64 b) (w : World) : Calls Try.prog 25 #[.int .i64 a, .int .i64 b] w (PkNew (heldN a) (heldN b) (heldN b * 1000000) w) := by
  have m1 := pk_held a ha
  have m2 := pk_held b hb
  have hu := heldN_le b
  generalize heldN a = r at m1 ⊢
  generalize heldN b = u at m2 hu ⊢
  have m3 := fun w => parts_held (n := u) hu w
  generalize u * 1000000 = U at m3 ⊢
  have M3 := Lib.hid m3
  clear m3
  have HB := Lib.hid (show PkAt (w.alloc (.cells #[.int .i64 (r : Int), .int .i64 (u : Int), .int .i64 (U : Int)] 64)) w.heap.size r u U from Blk.new w _ _)
  have HB2 := Lib.hid (below_alloc9 w (.cells #[.int .i64 (r : Int), .int .i64 (u : Int), .int .i64 (U : Int)] 64))
  go_enter Try.func25, Try.ntmps25
  go_wp2_with fail
  refine (m1 w).mono ?_
  rintro e w' ⟨rfl, rfl⟩
  go_wp2_with fail
  refine (m2 _).mono ?_
  rintro e w' ⟨rfl, rfl⟩
  go_wp2_with fail
  refine (M3.out _).mono ?_
  rintro e w' ⟨rfl, rfl⟩
  go_wp2_with fail
  go_ret
  exact ⟨_, rfl, HB.out, Nat.le_refl _, HB2.out⟩
theorem pk_level (g r u l : Nat) (w : World) (h : PkAt w g r u l) (ok : BkOk r u l) : Calls Try.prog 24 #[.pointer (some ⟨g, 0, none⟩)] w (Dn (.int .i64 ((l / 1000000 : Nat) : Int)) w) := by
  have hl := ok.level
  have hu := ok.burst
  have k2 : w.cell? ⟨g, 2, none⟩ = some (.int .i64 (l : Int)) := Blk.cell h 2
  have hd : (l : Int).tdiv 1000000 = ((l / 1000000 : Nat) : Int) := by rw [Int.tdiv_eq_ediv_of_nonneg (by omega)]; rfl
  have hd2 : (l : Int) / 1000000 = ((l / 1000000 : Nat) : Int) := by omega
  have yD : IntKind.i64.wrap ((l / 1000000 : Nat) : Int) = ((l / 1000000 : Nat) : Int) := i64_nn _ (by omega)
  clear h ok
  generalize l / 1000000 = D at *
  go_enter Try.func24, Try.ntmps24
  go_wp2_with fail
  go_ret
  exact ⟨rfl, 0, rfl⟩
theorem pk_burst (g r u l : Nat) (w : World) (h : PkAt w g r u l) : Calls Try.prog 27 #[.pointer (some ⟨g, 0, none⟩)] w (Dn (.int .i64 (u : Int)) w) := by
  have k1 : w.cell? ⟨g, 1, none⟩ = some (.int .i64 (u : Int)) := Blk.cell h 1
  clear h
  go_enter Try.func27, Try.ntmps27
  go_wp2_with fail
  go_ret
  exact ⟨rfl, 0, rfl⟩
end Go.Proofs.Ytdjopbhjfnakdaa
