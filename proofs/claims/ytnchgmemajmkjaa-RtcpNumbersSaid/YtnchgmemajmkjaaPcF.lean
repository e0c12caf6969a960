/- Contract: rtcp.Right. -/
import Derived.Test.YtnchgmemajmkjaaPcC
import Derived.Test.YtnchgmemajmkjaaMb
import Derived.Test.YtnchgmemajmkjaaRegP
namespace Go.Proofs.Ytnchgmemajmkjaa.RP
open Go.RowKit
set_option linter.unusedVariables false
set_option linter.unusedSimpArgs false
set_option maxRecDepth 20000

/-- The value of a report that reads as r. -/
def ownC (r : Rep) : Cl := .pred (fun v W => ∃ x : Rv, v = x.val ∧ x.r = r ∧ IsR W W.heap.size x) (fun v w w' hb h => by obtain ⟨x, h1, h2, h3⟩ := h; exact ⟨x, h1, h2, h3.on hb⟩)
theorem ownC_of {r : Rep} {c : Cl} {v : Value} {W : World} (h : c.holds v W) (e : c = ownC r) : ∃ x : Rv, v = x.val ∧ x.r = r ∧ IsR W W.heap.size x := by subst e; exact h
theorem ownC_ret {r : Rep} {c : Cl} {w w' : World} {e : Ending} (hc : c = ownC r) (h : OwnOf w r e w') : ∃ v, e = .returned v ∧ Below w.heap.size w w' ∧ c.holds v w' := by
  obtain ⟨x, h1, h2, h3, h4⟩ := h
  subst hc
  exact ⟨x.val, h1, h4, x, rfl, h2, h3⟩
set_option maxHeartbeats 4000000 in
theorem rtcp_Right (x : Rv) (w : World) (hx : IsR w w.heap.size x) : Calls Try.prog 23 #[x.val] w (AnsW (.int .i64 x.r.err) w) := by
  by_cases hk : 1 ≤ x.r.kind ∧ x.r.kind ≤ 6
  rotate_left
  · rw [Rep.err_kind (by omega)]
    obtain ⟨⟨kind, src, about, tups, abouts, nums, rate, ty, count, body⟩, At, ct, Aa, ca, An, cn, Ab, cb⟩ := x
    simp only at hk
    simp only [Rv.val, Rv.cells]
    have hb : Below w.heap.size w (w.alloc (.cells #[.int .i64 kind, .int .u32 (src : Int), .int .u32 (about : Int), .slice At tups.length ct, .slice Aa abouts.length ca, .slice An nums.length cn, .int .u64 (rate : Int), .int .i64 ty, .int .i64 count, .slice Ab body.length cb] 33)) := (Below.refl _ w).alloc (Nat.le_refl _) _
    clear hx
    by_cases g : kind < 1
    · have g1 : decide (kind < 1) = true := decide_eq_true g
      clear g hk
      go_enter Try.func23, Try.ntmps23
      go_wp2_with fail
      go_ret
      exact ⟨rfl, hb⟩
    · have g1 : decide (kind < 1) = false := decide_eq_false g
      have g2 : decide (6 < kind) = true := decide_eq_true (by omega)
      clear g hk
      go_enter Try.func23, Try.ntmps23
      go_wp2_with fail
      go_ret
      exact ⟨rfl, hb⟩
  rw [Rep.err_of hk]
  have hbare := own_bare hk
  have hfi := fun W h => rtcp_fits x W h hk
  have how := fun W h => own_any x W h hk
  have hsa := fun y W h h' => rtcp_Same x y W h h'
  generalize x.r.bare = B at hbare ⊢
  generalize x.r.fits = F at hfi ⊢
  generalize x.r.own = O at hbare how
  obtain ⟨⟨kind, src, about, tups, abouts, nums, rate, ty, count, body⟩, At, ct, Aa, ca, An, cn, Ab, cb⟩ := x
  simp only at hk hbare hsa
  simp only [Rv.val, Rv.cells] at hfi how hsa ⊢
  have hb : Below w.heap.size w (w.alloc (.cells #[.int .i64 kind, .int .u32 (src : Int), .int .u32 (about : Int), .slice At tups.length ct, .slice Aa abouts.length ca, .slice An nums.length cn, .int .u64 (rate : Int), .int .i64 ty, .int .i64 count, .slice Ab body.length cb] 33)) := (Below.refl _ w).alloc (Nat.le_refl _) _
  have hZ : Blk (w.alloc (.cells #[.int .i64 kind, .int .u32 (src : Int), .int .u32 (about : Int), .slice At tups.length ct, .slice Aa abouts.length ca, .slice An nums.length cn, .int .u64 (rate : Int), .int .i64 ty, .int .i64 count, .slice Ab body.length cb] 33)) w.heap.size 33 #[.int .i64 kind, .int .u32 (src : Int), .int .u32 (about : Int), .slice At tups.length ct, .slice Aa abouts.length ca, .slice An nums.length cn, .int .u64 (rate : Int), .int .i64 ty, .int .i64 count, .slice Ab body.length cb] := Blk.new _ _ _
  have hX := hx.on hb
  have g1 : decide (kind < 1) = false := decide_eq_false (by omega)
  have g2 : decide (6 < kind) = false := decide_eq_false (by omega)
  clear hx hk
  go_enter Try.func23, Try.ntmps23
  go_wp2_with fail
  ((with_reducible refine (hfi _ hX).mono ?_); rintro e w1 ⟨rfl, b1⟩)
  clear hfi g1 g2
  have hZ := hZ.below b1 hZ.lt
  have hX := hX.on b1
  have b1 := hb.trans (b1.mono hb.size)
  clear hb
  cases F
  · clear hZ hX how hsa hbare
    go_wp2_with fail
    go_ret
    exact ⟨rfl, b1⟩
  have hlt := hZ.lt
  obtain ⟨P, hP⟩ : ∃ P, w.heap.size = P := ⟨_, rfl⟩
  rw [hP] at hZ hlt b1 ⊢
  have HP := Lib.hid hP
  clear hP
  have ho : (decide ((⟨kind, src, about, tups, abouts, nums, rate, ty, count, body⟩ : Rep) = O)) = B := hbare
  have hO := Lib.hid ho
  clear hbare ho
  go_upto_region 5 with (fail)
  cases B
  · skip
    refine wp_region_tbl [.val (.agg #[.int .i64 kind, .int .u32 (src : Int), .int .u32 (about : Int), .slice At tups.length ct, .slice Aa abouts.length ca, .slice An nums.length cn, .int .u64 (rate : Int), .int .i64 ty, .int .i64 count, .slice Ab body.length cb]), .val (.agg #[.int .i64 kind, .int .u32 (src : Int), .int .u32 (about : Int), .slice At tups.length ct, .slice Aa abouts.length ca, .slice An nums.length cn, .int .u64 (rate : Int), .int .i64 ty, .int .i64 count, .slice Ab body.length cb]), ownC O, .val (.bool false), .val (.bool true), .val (.bool true)] (by kernel_rfl) (by kernel_rfl) (by kernel_rfl) (AllObl.all ⟨?_, ?_, ?_, ?_, ?_, ?_, trivial⟩) ?_
    · exact Obl.pure trivial (.agg #[.int .i64 kind, .int .u32 (src : Int), .int .u32 (about : Int), .slice At tups.length ct, .slice Aa abouts.length ca, .slice An nums.length cn, .int .u64 (rate : Int), .int .i64 ty, .int .i64 count, .slice Ab body.length cb]) (by kernel_rfl) (fun ev w hb hx => by
        have e1 : ev (.tmp 1) = .pointer (some ⟨P, 0, none⟩) := holds_val (hx (.tmp 1)) (by kernel_rfl)
        (obtain ⟨m0, m1, m2, m3, m4, m5, m6, m7, m8, m9⟩ := blk10 (hZ.below ((drew_below _).trans hb) hlt); simp [execOp, e1, go_sem, m0, m1, m2, m3, m4, m5, m6, m7, m8, m9]))
    · exact Obl.pure trivial (.agg #[.int .i64 kind, .int .u32 (src : Int), .int .u32 (about : Int), .slice At tups.length ct, .slice Aa abouts.length ca, .slice An nums.length cn, .int .u64 (rate : Int), .int .i64 ty, .int .i64 count, .slice Ab body.length cb]) (by kernel_rfl) (fun ev w hb hx => by
        have e1 : ev (.tmp 1) = .pointer (some ⟨P, 0, none⟩) := holds_val (hx (.tmp 1)) (by kernel_rfl)
        (obtain ⟨m0, m1, m2, m3, m4, m5, m6, m7, m8, m9⟩ := blk10 (hZ.below ((drew_below _).trans hb) hlt); simp [execOp, e1, go_sem, m0, m1, m2, m3, m4, m5, m6, m7, m8, m9]))
    · exact Obl.call trivial 47 #[.tmp 18] _ rfl Try.f47 Try.func47 (by kernel_rfl) (by kernel_rfl) (fun ev w hb hx => by
        have e18 : ev (.tmp 18) = .agg #[.int .i64 kind, .int .u32 (src : Int), .int .u32 (about : Int), .slice At tups.length ct, .slice Aa abouts.length ca, .slice An nums.length cn, .int .u64 (rate : Int), .int .i64 ty, .int .i64 count, .slice Ab body.length cb] := holds_val (hx (.tmp 18)) (by kernel_rfl)
        simp only [List.map_toArray, List.map_cons, List.map_nil, e18]
        exact ((how _ (hX.on ((drew_below _).trans hb)))).mono fun _ _ hh => ownC_ret (by kernel_rfl) hh)
    · exact Obl.call trivial 17 #[.tmp 17, .tmp 19] _ rfl Try.f17 Try.func17 (by kernel_rfl) (by kernel_rfl) (fun ev w hb hx => by
        have e17 : ev (.tmp 17) = .agg #[.int .i64 kind, .int .u32 (src : Int), .int .u32 (about : Int), .slice At tups.length ct, .slice Aa abouts.length ca, .slice An nums.length cn, .int .u64 (rate : Int), .int .i64 ty, .int .i64 count, .slice Ab body.length cb] := holds_val (hx (.tmp 17)) (by kernel_rfl)
        obtain ⟨y19, e19, q19, i19⟩ := ownC_of (hx (.tmp 19)) (by kernel_rfl)
        simp only [List.map_toArray, List.map_cons, List.map_nil, e17, e19]
        exact (((hsa y19 _ (hX.on ((drew_below _).trans hb)) i19).mono fun e w' h => (⟨h.1.trans (by rw [q19, hO.out]), h.2⟩ : AnsW (.bool false) _ e w'))).mono fun _ _ hh => Val.holds (by kernel_rfl) hh)
    · exact Obl.un trivial .not _ (.tmp 20) rfl (.bool false) (.bool true) (by kernel_rfl) (fun w => by simp [go_sem]) (by kernel_rfl)
    · exact Obl.move trivial _ (Or.inr rfl) (by kernel_rfl)
    intro a WR hb hsz hdf hold hv
    have ha := act_puts [17, 18, 19, 20, 21, 16] (by kernel_rfl) hsz hdf hold
    simp only [putAll] at ha
    have z16 : a.tmps.getD 16 undef = .bool true := holds_val (hv 5 16 (by kernel_rfl)) (by kernel_rfl)
    rw [z16] at ha
    generalize a.tmps.getD 17 undef = x17 at ha
    generalize a.tmps.getD 18 undef = x18 at ha
    generalize a.tmps.getD 19 undef = x19 at ha
    generalize a.tmps.getD 20 undef = x20 at ha
    generalize a.tmps.getD 21 undef = x21 at ha
    clear hv hold hsz hdf z16
    subst ha
    simp only [Act.put, List.setIfInBounds_toArray, List.set_cons_succ, List.set_cons_zero]
    have b2 := b1.trans (((drew_below _).trans hb).mono (Nat.le_of_lt hlt))
    clear hZ hX how hsa
    go_wp2_with fail
    go_ret
    exact ⟨rfl, by rw [HP.out]; exact b2⟩
  · skip
    refine wp_region_tbl [.val (.agg #[.int .i64 kind, .int .u32 (src : Int), .int .u32 (about : Int), .slice At tups.length ct, .slice Aa abouts.length ca, .slice An nums.length cn, .int .u64 (rate : Int), .int .i64 ty, .int .i64 count, .slice Ab body.length cb]), .val (.agg #[.int .i64 kind, .int .u32 (src : Int), .int .u32 (about : Int), .slice At tups.length ct, .slice Aa abouts.length ca, .slice An nums.length cn, .int .u64 (rate : Int), .int .i64 ty, .int .i64 count, .slice Ab body.length cb]), ownC O, .val (.bool true), .val (.bool false), .val (.bool false)] (by kernel_rfl) (by kernel_rfl) (by kernel_rfl) (AllObl.all ⟨?_, ?_, ?_, ?_, ?_, ?_, trivial⟩) ?_
    · exact Obl.pure trivial (.agg #[.int .i64 kind, .int .u32 (src : Int), .int .u32 (about : Int), .slice At tups.length ct, .slice Aa abouts.length ca, .slice An nums.length cn, .int .u64 (rate : Int), .int .i64 ty, .int .i64 count, .slice Ab body.length cb]) (by kernel_rfl) (fun ev w hb hx => by
        have e1 : ev (.tmp 1) = .pointer (some ⟨P, 0, none⟩) := holds_val (hx (.tmp 1)) (by kernel_rfl)
        (obtain ⟨m0, m1, m2, m3, m4, m5, m6, m7, m8, m9⟩ := blk10 (hZ.below ((drew_below _).trans hb) hlt); simp [execOp, e1, go_sem, m0, m1, m2, m3, m4, m5, m6, m7, m8, m9]))
    · exact Obl.pure trivial (.agg #[.int .i64 kind, .int .u32 (src : Int), .int .u32 (about : Int), .slice At tups.length ct, .slice Aa abouts.length ca, .slice An nums.length cn, .int .u64 (rate : Int), .int .i64 ty, .int .i64 count, .slice Ab body.length cb]) (by kernel_rfl) (fun ev w hb hx => by
        have e1 : ev (.tmp 1) = .pointer (some ⟨P, 0, none⟩) := holds_val (hx (.tmp 1)) (by kernel_rfl)
        (obtain ⟨m0, m1, m2, m3, m4, m5, m6, m7, m8, m9⟩ := blk10 (hZ.below ((drew_below _).trans hb) hlt); simp [execOp, e1, go_sem, m0, m1, m2, m3, m4, m5, m6, m7, m8, m9]))
    · exact Obl.call trivial 47 #[.tmp 18] _ rfl Try.f47 Try.func47 (by kernel_rfl) (by kernel_rfl) (fun ev w hb hx => by
        have e18 : ev (.tmp 18) = .agg #[.int .i64 kind, .int .u32 (src : Int), .int .u32 (about : Int), .slice At tups.length ct, .slice Aa abouts.length ca, .slice An nums.length cn, .int .u64 (rate : Int), .int .i64 ty, .int .i64 count, .slice Ab body.length cb] := holds_val (hx (.tmp 18)) (by kernel_rfl)
        simp only [List.map_toArray, List.map_cons, List.map_nil, e18]
        exact ((how _ (hX.on ((drew_below _).trans hb)))).mono fun _ _ hh => ownC_ret (by kernel_rfl) hh)
    · exact Obl.call trivial 17 #[.tmp 17, .tmp 19] _ rfl Try.f17 Try.func17 (by kernel_rfl) (by kernel_rfl) (fun ev w hb hx => by
        have e17 : ev (.tmp 17) = .agg #[.int .i64 kind, .int .u32 (src : Int), .int .u32 (about : Int), .slice At tups.length ct, .slice Aa abouts.length ca, .slice An nums.length cn, .int .u64 (rate : Int), .int .i64 ty, .int .i64 count, .slice Ab body.length cb] := holds_val (hx (.tmp 17)) (by kernel_rfl)
        obtain ⟨y19, e19, q19, i19⟩ := ownC_of (hx (.tmp 19)) (by kernel_rfl)
        simp only [List.map_toArray, List.map_cons, List.map_nil, e17, e19]
        exact (((hsa y19 _ (hX.on ((drew_below _).trans hb)) i19).mono fun e w' h => (⟨h.1.trans (by rw [q19, hO.out]), h.2⟩ : AnsW (.bool true) _ e w'))).mono fun _ _ hh => Val.holds (by kernel_rfl) hh)
    · exact Obl.un trivial .not _ (.tmp 20) rfl (.bool true) (.bool false) (by kernel_rfl) (fun w => by simp [go_sem]) (by kernel_rfl)
    · exact Obl.move trivial _ (Or.inr rfl) (by kernel_rfl)
    intro a WR hb hsz hdf hold hv
    have ha := act_puts [17, 18, 19, 20, 21, 16] (by kernel_rfl) hsz hdf hold
    simp only [putAll] at ha
    have z16 : a.tmps.getD 16 undef = .bool false := holds_val (hv 5 16 (by kernel_rfl)) (by kernel_rfl)
    rw [z16] at ha
    generalize a.tmps.getD 17 undef = x17 at ha
    generalize a.tmps.getD 18 undef = x18 at ha
    generalize a.tmps.getD 19 undef = x19 at ha
    generalize a.tmps.getD 20 undef = x20 at ha
    generalize a.tmps.getD 21 undef = x21 at ha
    clear hv hold hsz hdf z16
    subst ha
    simp only [Act.put, List.setIfInBounds_toArray, List.set_cons_succ, List.set_cons_zero]
    have b2 := b1.trans (((drew_below _).trans hb).mono (Nat.le_of_lt hlt))
    clear hZ hX how hsa
    go_wp2_with fail
    go_ret
    exact ⟨rfl, by rw [HP.out]; exact b2⟩
end Go.Proofs.Ytnchgmemajmkjaa.RP
