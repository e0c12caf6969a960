/- Layers out of values: right, the law's layer. -/
import Derived.Test.YtgopfoanhiedfaaVlM
namespace Go.Proofs.Ytgopfoanhiedfaa
open Go.RowKit
set_option linter.unusedVariables false
set_option linter.unusedSimpArgs false
set_option maxRecDepth 20000

theorem below_alloc (w : World) (o : Obj) : Below w.heap.size w (w.alloc o) := (Below.refl _ _).alloc (Nat.le_refl _) _
theorem calls_true {s : ByteArray} {f : FuncId} {b : Bool} (h : ∀ w, Calls Try.prog f #[.string s] w (Ans (.bool (right s)) w)) (hr : right s = b) : ∀ w, Calls Try.prog f #[.string s] w (Ans (.bool b) w) := by
  subst hr
  exact h
theorem right_lay (x : Lay) (w : World) (hx : x.In) : Calls Try.prog 18 #[.string x.rid, .int .u32 (x.ssrc : Int), .int .i64 x.height] w (Ans (.tuple #[(rgt x).val, .int .i64 (rgE x)]) w) := by
  have hs := hx.rid
  have hr0 : ∀ w, Calls Try.prog 24 #[.string x.rid] w (Ans (.bool (right x.rid)) w) := fun w => right_any x.rid w (by omega)
  by_cases hok : okL x = true
  · rw [rgt_ok hok, rgE_ok hok]
    have hok' := hok
    simp only [okL, Bool.and_eq_true, decide_eq_true_eq] at hok'
    obtain ⟨hr, h1, h2⟩ := hok'
    have hc := calls_true hr0 hr
    clear hr hok hr0
    obtain ⟨s, n, h⟩ := x
    simp only at hs h1 h2 hc
    go_enter Try.func18, Try.ntmps18
    go_wp2_with fail
    refine (hc _).mono ?_
    rintro e w1 ⟨rfl, b1⟩
    have gB := (Blk.new w 28 #[.string ⟨#[]⟩, .int .u32 0, .int .i64 0]).below b1 (by simp)
    go_wp2_with fail
    refine (clone_any s _ (by omega)).mono ?_
    rintro e w2 ⟨rfl, b2⟩
    have gC := gB.below b2 gB.lt
    have g2 := blk3 gC
    have ba := below_alloc w (.cells #[.string ⟨#[]⟩, .int .u32 0, .int .i64 0] 28)
    have b1' := ba.trans (b1.mono ba.size)
    have b2' := b1'.trans (b2.mono b1'.size)
    clear b1 b2 ba b1' gB
    go_wp2_with fail
    refine bodyPost_ret (v := .tuple #[Lay.val ⟨s, n, h⟩, .int .i64 0]) ?_ rfl ⟨rfl, b2'.trans (set3_below (Nat.le_refl _))⟩
    have gE := blk3 (set3_blk (v0 := .string s) (v1 := .int .u32 (n : Int)) (v2 := .int .i64 h) gC)
    change (results _ _).run _ (set3 w2 w.heap.size (.string s) (.int .u32 (n : Int)) (.int .i64 h)) = .ok _ (set3 w2 w.heap.size (.string s) (.int .u32 (n : Int)) (.int .i64 h))
    generalize set3 w2 w.heap.size (.string s) (.int .u32 (n : Int)) (.int .i64 h) = W at gE ⊢
    simp [results, Try.results18, go_sem, gE]
  · have hok : okL x = false := by simpa using hok
    rw [rgt_no hok, rgE_no hok]
    obtain ⟨s, n, h⟩ := x
    simp only at hs hr0
    have gW := fun (W : World) => blk3 (set3_blk (v0 := .string ⟨#[]⟩) (v1 := .int .u32 0) (v2 := .int .i64 0) (Blk.new W 28 #[.string ⟨#[]⟩, .int .u32 0, .int .i64 0]))
    have ba := below_alloc w (.cells #[.string ⟨#[]⟩, .int .u32 0, .int .i64 0] 28)
    by_cases hr : right s = true
    · have hc := calls_true hr0 hr
      have h3 : h < 1 ∨ 8192 < h := by
        simp only [okL, hr, Bool.true_and, decide_eq_false_iff_not] at hok
        omega
      clear hr hr0 hok gW
      by_cases h1 : h < 1
      · go_enter Try.func18, Try.ntmps18
        go_wp2_with fail
        refine (hc _).mono ?_
        rintro e w1 ⟨rfl, b1⟩
        have gB := (Blk.new w 28 #[.string ⟨#[]⟩, .int .u32 0, .int .i64 0]).below b1 (by simp)
        have g2 := blk3 gB
        have b1' := ba.trans (b1.mono ba.size)
        clear b1 ba
        go_wp2_with fail
        refine bodyPost_ret (v := .tuple #[zL.val, .int .i64 12]) ?_ rfl ⟨rfl, b1'.trans (set3_below (Nat.le_refl _))⟩
        have gE := blk3 (set3_blk (v0 := .string ⟨#[]⟩) (v1 := .int .u32 0) (v2 := .int .i64 0) gB)
        change (results _ _).run _ (set3 w1 w.heap.size (.string ⟨#[]⟩) (.int .u32 0) (.int .i64 0)) = .ok (.tuple #[.agg #[.string ⟨#[]⟩, .int .u32 0, .int .i64 0], .int .i64 12]) (set3 w1 w.heap.size (.string ⟨#[]⟩) (.int .u32 0) (.int .i64 0))
        generalize set3 w1 w.heap.size (.string ⟨#[]⟩) (.int .u32 0) (.int .i64 0) = W at gE ⊢
        simp [results, Try.results18, go_sem, gE]
      · have h2 : 8192 < h := by omega
        clear h3
        go_enter Try.func18, Try.ntmps18
        go_wp2_with fail
        refine (hc _).mono ?_
        rintro e w1 ⟨rfl, b1⟩
        have gB := (Blk.new w 28 #[.string ⟨#[]⟩, .int .u32 0, .int .i64 0]).below b1 (by simp)
        have g2 := blk3 gB
        have b1' := ba.trans (b1.mono ba.size)
        clear b1 ba
        go_wp2_with fail
        refine bodyPost_ret (v := .tuple #[zL.val, .int .i64 12]) ?_ rfl ⟨rfl, b1'.trans (set3_below (Nat.le_refl _))⟩
        have gE := blk3 (set3_blk (v0 := .string ⟨#[]⟩) (v1 := .int .u32 0) (v2 := .int .i64 0) gB)
        change (results _ _).run _ (set3 w1 w.heap.size (.string ⟨#[]⟩) (.int .u32 0) (.int .i64 0)) = .ok (.tuple #[.agg #[.string ⟨#[]⟩, .int .u32 0, .int .i64 0], .int .i64 12]) (set3 w1 w.heap.size (.string ⟨#[]⟩) (.int .u32 0) (.int .i64 0))
        generalize set3 w1 w.heap.size (.string ⟨#[]⟩) (.int .u32 0) (.int .i64 0) = W at gE ⊢
        simp [results, Try.results18, go_sem, gE]
    · have hc := calls_true hr0 (by simpa using hr : right s = false)
      clear hr hr0 hok gW
      go_enter Try.func18, Try.ntmps18
      go_wp2_with fail
      refine (hc _).mono ?_
      rintro e w1 ⟨rfl, b1⟩
      have gB := (Blk.new w 28 #[.string ⟨#[]⟩, .int .u32 0, .int .i64 0]).below b1 (by simp)
      have g2 := blk3 gB
      have b1' := ba.trans (b1.mono ba.size)
      clear b1 ba
      go_wp2_with fail
      refine bodyPost_ret (v := .tuple #[zL.val, .int .i64 12]) ?_ rfl ⟨rfl, b1'.trans (set3_below (Nat.le_refl _))⟩
      have gE := blk3 (set3_blk (v0 := .string ⟨#[]⟩) (v1 := .int .u32 0) (v2 := .int .i64 0) gB)
      change (results _ _).run _ (set3 w1 w.heap.size (.string ⟨#[]⟩) (.int .u32 0) (.int .i64 0)) = .ok (.tuple #[.agg #[.string ⟨#[]⟩, .int .u32 0, .int .i64 0], .int .i64 12]) (set3 w1 w.heap.size (.string ⟨#[]⟩) (.int .u32 0) (.int .i64 0))
      generalize set3 w1 w.heap.size (.string ⟨#[]⟩) (.int .u32 0) (.int .i64 0) = W at gE ⊢
      simp [results, Try.results18, go_sem, gE]
end Go.Proofs.Ytgopfoanhiedfaa
