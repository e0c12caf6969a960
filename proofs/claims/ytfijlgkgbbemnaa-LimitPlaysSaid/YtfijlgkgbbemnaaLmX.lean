/- Law 14's helper: tuples; both limits side by side. -/
import Derived.Test.YtfijlgkgbbemnaaLmI
namespace Go.Proofs.Ytfijlgkgbbemnaa
open Go.RowKit
set_option linter.unusedVariables false
set_option linter.unusedSimpArgs false
set_option maxRecDepth 20000

theorem neq_tup (x : Tup) (W : World) : (binOp .neq 31 x.val x.val).run Try.prog W = .ok (.bool false) W := by
  have hS : Try.prog.underlying 31 = some (.struct (Try.prog.fieldsOf 31)) := by kernel_rfl
  have hp : Try.prog.stoodInHeld 31 = false := by kernel_rfl
  have u0 := Try.underlying28
  have u1 := Try.underlying29
  have u2 := Try.underlying3
  have a0 := Try.isAgg28
  have a1 := Try.isAgg29
  have a2 := Try.isAgg3
  have z0 := Try.sizeOf28
  have z1 := Try.sizeOf29
  have z2 := Try.sizeOf3
  rw [run_neq_struct, show (10000 : Nat) = 9999 + 1 from rfl, run_equalIn_agg W 9999 _ _ _ hS hp]
  simp only [Program.fieldsOf, Try.underlying31]
  go_simp
set_option maxHeartbeats 2000000 in
theorem tuples_yes {A A' : Option Addr} {n n' c c' : Nat} {l : List Tup} {w : World} (h : RT w w.heap.size A n c l) (h' : RT w w.heap.size A' n' c' l) (hn : n ≤ 1000000) :
    Calls Try.prog 26 #[.slice A n c, .slice A' n' c'] w (Yes w) := by
  have hnn : n = n' := h.1.symm.trans h'.1
  subst hnn
  have HR := Lib.hid h
  have HS := Lib.hid h'
  have hl := Lib.hid h.1
  clear h h'
  go_enter Try.func26, Try.ntmps26
  go_wp2_with fail
  go_loopw [5, 13] (fun _ i wr => ∃ q : Nat, q ≤ n ∧ i = .int .i64 (q : Int) ∧ Below w.heap.size w wr) (fun _ i _ => n - (intOf i).toNat)
  case atStart => exact ⟨0, by omega, rfl, Below.refl _ _⟩
  case round =>
    obtain ⟨q, hq, rfl, b0⟩ := hrel
    by_cases hlt : q < n
    · have g1 : decide ((q : Int) < (n : Int)) = true := by simp; omega
      have g3 : (q : Int) < (n : Int) := by omega
      have hql : q < l.length := by rw [hl.out]; exact hlt
      obtain ⟨b, off, rfl, hb, c0, c1, c2⟩ := (HR.out.on b0).at (q := q) hql
      obtain ⟨b', off', rfl, hb', d0, d1, d2⟩ := (HS.out.on b0).at (q := q) hql
      have hne := fun W => neq_tup l[q] W
      generalize l[q] = x at c0 c1 c2 d0 d1 d2 hne
      clear hb hb' hql
      go_upto_region 6 with (fail)
      go_quiet (fail)
      go_wp2_with fail
      go_roundw
      case rel => exact ⟨q + 1, by omega, by go_num, b0.trans ((belowDrewN wr _).mono b0.size)⟩
      case measure => simp [intOf]; omega
    · have g1 : decide ((q : Int) < (n : Int)) = false := by simp; omega
      go_wp2_with fail
      go_ret
      exact ⟨rfl, b0⟩
/-- Both limits, each with what it holds; all that they stand on was made since w0. -/
structure LmS (w0 : World) (G : Nat) (rb : Option Nat) (E : Ents) (S : Nat → Prop) (Gr : Nat) (rb2 : Option Nat) (E2 : Ents) (v1 v2 : Value) (c : Nat) (W : World) : Prop where
  lm : LmAt W G c rb E S
  rl : RlAt W Gr c rb2 E2 v1 v2
  ok : EntsOk E
  so : SortE E
  ok2 : EntsOk E2
  cap : c ≤ 1099511627776
  rbl : ∀ r, rb = some r → r ≤ 1099511627776
  rbl2 : ∀ r, rb2 = some r → r ≤ 1099511627776
  sep : ∀ k, S k → ¬ RlS Gr v1 v2 k
  lo : ∀ k, S k → w0.heap.size ≤ k
  lo2 : ∀ k, RlS Gr v1 v2 k → w0.heap.size ≤ k
  below : Below w0.heap.size w0 W
section
variable {w0 W W' : World} {G Gr c : Nat} {rb rb2 rb' : Option Nat} {E E2 E' : Ents} {S : Nat → Prop} {v1 v2 v : Value} {e : Ending}
theorem LmS.on (h : LmS w0 G rb E S Gr rb2 E2 v1 v2 c W) (hb : Below W.heap.size W W') : LmS w0 G rb E S Gr rb2 E2 v1 v2 c W' :=
  ⟨h.lm.keep (OnlyS.of (S := fun _ => False) hb) (fun _ _ h => h), h.rl.on hb, h.ok, h.so, h.ok2, h.cap, h.rbl, h.rbl2, h.sep, h.lo, h.lo2, h.below.trans (hb.mono h.below.size)⟩
/-- The project's has turned. -/
theorem LmS.left (h : LmS w0 G rb E S Gr rb2 E2 v1 v2 c W) (ho : LmOut G c rb' E' S v W e W') (hk : EntsOk E') (hs : SortE E') (hr : ∀ r, rb' = some r → r ≤ 1099511627776) : e = .returned v ∧ ∃ S', LmS w0 G rb' E' S' Gr rb2 E2 v1 v2 c W' := by
  obtain ⟨he, S', h1, h2, h3⟩ := ho
  refine ⟨he, S', ⟨h1, h.rl.keep h3 (fun k hk hs => h.sep k hs hk), hk, hs, h.ok2, h.cap, hr, h.rbl2, fun k hk hr => ?_, fun k hk => ?_, h.lo2, h.below.trans (h3.below h.lo h.below.size)⟩⟩
  · rcases h2 k hk with h4 | h4
    · exact h.sep k h4 hr
    · have := h.rl.lt hr
      omega
  · rcases h2 k hk with h4 | h4
    · exact h.lo k h4
    · exact Nat.le_trans h.below.size h4
/-- The reference's has turned. -/
theorem LmS.right (h : LmS w0 G rb E S Gr rb2 E2 v1 v2 c W) (ho : RlOut Gr c rb' E' v1 v2 v W e W') (hk : EntsOk E') (hr : ∀ r, rb' = some r → r ≤ 1099511627776) : e = .returned v ∧ ∃ v1' v2', LmS w0 G rb E S Gr rb' E' v1' v2' c W' := by
  obtain ⟨he, a1, a2, h1, h2, h3⟩ := ho
  refine ⟨he, a1, a2, ⟨h.lm.keep h3 (fun k hk hs => h.sep k hk hs), h1, h.ok, h.so, hk, h.cap, h.rbl, hr, fun k hk hr => ?_, h.lo, fun k hk => ?_, h.below.trans (h3.below h.lo2 h.below.size)⟩⟩
  · rcases h2 k hr with h4 | h4
    · exact h.sep k hk h4
    · have := h.lm.lt hk
      omega
  · rcases h2 k hk with h4 | h4
    · exact h.lo2 k h4
    · exact Nat.le_trans h.below.size h4
/-- The reference's REMB is laid. -/
theorem LmS.remb (h : LmS w0 G rb E S Gr rb2 E2 v1 v2 c W) {n : Nat} (hn : n ≤ 1099511627776) : LmS w0 G rb E S Gr (some n) E2 v1 v2 c (W.setCell ⟨Gr, 1, none⟩ (.int .i64 (n : Int))) := by
  have ho := OnlyS.one (S := fun k => k = Gr) (Only.set Gr 1 W (.int .i64 (n : Int))) rfl
  have hne : ∀ k, S k → k ≠ Gr := fun k hk e => h.sep k hk (.inl e)
  refine ⟨h.lm.keep ho hne, ⟨?_, own_onlyS h.rl.r1 ho (fun k hk (e : k = Gr) => h.rl.n1 (e ▸ hk)), own_onlyS h.rl.r2 ho (fun k hk (e : k = Gr) => h.rl.n2 (e ▸ hk))⟩, h.ok, h.so, h.ok2, h.cap, h.rbl, fun r hr => by injection hr with hr; omega, h.sep, h.lo, h.lo2, h.below.trans (ho.below (fun k hk => by rw [hk]; exact h.lo2 Gr (.inl rfl)) h.below.size)⟩
  have := h.rl.blk.set_ 1 (.int .i64 (n : Int))
  show Blk _ Gr _ #[.int .i64 (c : Int), .int .i64 (n : Int), v1, v2]
  simpa only [List.setIfInBounds_toArray, List.set_cons_succ, List.set_cons_zero] using this
end
/-- The project's limit alone, with what it holds; all that it stands on was made since w0. -/
structure LmP1 (w0 : World) (G c : Nat) (rb : Option Nat) (E : Ents) (S : Nat → Prop) (W : World) : Prop where
  lm : LmAt W G c rb E S
  ok : EntsOk E
  so : SortE E
  lo : ∀ k, S k → w0.heap.size ≤ k
  below : Below w0.heap.size w0 W
section
variable {w0 W W' : World} {G c : Nat} {rb rb' : Option Nat} {E E' : Ents} {S : Nat → Prop} {v : Value} {e : Ending}
theorem LmP1.on (h : LmP1 w0 G c rb E S W) (hb : Below W.heap.size W W') : LmP1 w0 G c rb E S W' :=
  ⟨h.lm.keep (OnlyS.of (S := fun _ => False) hb) (fun _ _ h => h), h.ok, h.so, h.lo, h.below.trans (hb.mono h.below.size)⟩
theorem LmP1.out (h : LmP1 w0 G c rb E S W) (ho : LmOut G c rb' E' S v W e W') (hk : EntsOk E') (hs : SortE E') : e = .returned v ∧ ∃ S', LmP1 w0 G c rb' E' S' W' := by
  obtain ⟨he, S', h1, h2, h3⟩ := ho
  refine ⟨he, S', ⟨h1, hk, hs, fun k hk => ?_, h.below.trans (h3.below h.lo h.below.size)⟩⟩
  rcases h2 k hk with h4 | h4
  · exact h.lo k h4
  · exact Nat.le_trans h.below.size h4
/-- Tmmbr, at what is known of it. -/
theorem lm_tmmbr_at (h : LmP1 w0 G c rb E S W) {o r : Nat} {v' : Int} (hin : (⟨o, r, v'⟩ : Tup).In) {now : Int} (hnow : I64 now) {O R : Int} (hO : (o : Int) = O) (hR : (r : Int) = R) {E' : Ents} {b : Bool} (hE : putE E ⟨⟨o, r, v'⟩, untilE now⟩ = E') (hb : okE E o = b) :
    Calls Try.prog 14 #[.pointer (some ⟨G, 0, none⟩), .agg #[.int .u32 O, .int .u64 R, .int .i64 v'], .int .i64 now] W (fun e W' => e = .returned (.bool b) ∧ ∃ S', LmP1 w0 G c rb E' S' W') := by
  subst hO hR hE hb
  exact (lm_tmmbr h.lm h.ok h.so hin hnow).mono fun e W' ho => h.out ho (h.ok.put ⟨hin, untilE_i64 hnow⟩) (h.so.put _)
theorem lm_tick_at (h : LmP1 w0 G c rb E S W) {now : Int} (hnow : I64 now) {E' : Ents} {n : Int} (hE : tickE E now = E') (hn : ((E.length - (tickE E now).length : Nat) : Int) = n) :
    Calls Try.prog 17 #[.pointer (some ⟨G, 0, none⟩), .int .i64 now] W (fun e W' => e = .returned (.int .i64 n) ∧ ∃ S', LmP1 w0 G c rb E' S' W') := by
  subst hE hn
  exact (lm_tick h.lm h.ok h.so hnow).mono fun e W' ho => h.out ho (h.ok.tick now) (h.so.tick now)
theorem lm_rate_at (h : LmP1 w0 G c rb E S W) (hc : c ≤ 1099511627776) (hrb : ∀ r, rb = some r → r ≤ 1099511627776) {n : Int} (hn : ((limV c rb E : Nat) : Int) = n) :
    Calls Try.prog 15 #[.pointer (some ⟨G, 0, none⟩)] W (fun e W' => e = .returned (.int .i64 n) ∧ LmP1 w0 G c rb E S W') := by
  subst hn
  exact (lm_rate h.lm h.ok h.so hc hrb).mono fun e W' ho => ⟨ho.1, h.on ho.2⟩
theorem lm_remb_at (h : LmP1 w0 G c rb E S W) {r : Nat} {R : Int} (hr : r < 18446744073709551616) (hR : (r : Int) = R) :
    Calls Try.prog 16 #[.pointer (some ⟨G, 0, none⟩), .int .u64 R] W (fun e W' => e = .returned (.tuple #[]) ∧ ∃ S', LmP1 w0 G c (some (btR r)) E S' W') := by
  subst hR
  exact (lm_remb h.lm hr).mono fun e W' ho => h.out ho h.ok h.so
end
theorem lm_new_at (a : Int) (ha : I64 a) (w : World) {c : Nat} (hc : capN a = c) : Calls Try.prog 13 #[.int .i64 a] w (fun e w' => ∃ G S, e = .returned (.pointer (some ⟨G, 0, none⟩)) ∧ LmP1 w G c none [] S w') := by
  subst hc
  refine (lm_new a ha w).mono ?_
  rintro e w' ⟨G, S, rfl, h1, h2, h3⟩
  exact ⟨G, S, rfl, h1, EntsOk.nil, SortE.nil, h2, h3⟩
end Go.Proofs.Ytfijlgkgbbemnaa
