/- The law's own layer of three values. -/
import Derived.Test.YtgopfoanhiedfaaVlB
namespace Go.Proofs.Ytgopfoanhiedfaa
open Go.RowKit
set_option linter.unusedVariables false
set_option linter.unusedSimpArgs false
set_option maxRecDepth 20000

theorem inS_of {n : Int} (h : inS n = true) : ∃ k : Nat, n = (k : Int) ∧ k ≤ 4294967295 := by
  simp only [inS, decide_eq_true_eq] at h
  exact ⟨n.toNat, by omega, by omega⟩
theorem law_layer (s : ByteArray) (n m : Int) (w : World) (hs : s.size ≤ 140737488355328) (hn : I64 n) (hm : I64 m) : Calls Try.prog 16 #[.string s, .int .i64 n, .int .i64 m] w (Ans (.tuple #[(l3 s n m).val, .int .i64 (l3E s n m)]) w) := by
  have ba := below_alloc w (.cells #[.string ⟨#[]⟩, .int .u32 0, .int .i64 0] 28)
  have hr0 : ∀ w, Calls Try.prog 22 #[.string s] w (Ans (.bool (right s)) w) := fun w => ref_rid s w (by omega)
  unfold I64 at hn hm
  by_cases hS : inS n = true
  · obtain ⟨k, rfl, hk⟩ := inS_of hS
    rw [show l3 s (k : Int) m = rgt ⟨s, k, m⟩ by simp [l3, hS], show l3E s (k : Int) m = rgE ⟨s, k, m⟩ by simp [l3E, hS]]
    clear hS hn
    by_cases hok : okL ⟨s, k, m⟩ = true
    · rw [rgt_ok hok, rgE_ok hok]
      simp only [okL, Bool.and_eq_true, decide_eq_true_eq] at hok
      obtain ⟨hr, h1, h2⟩ := hok
      have hc := calls_true hr0 hr
      clear hr hr0
      go_enter Try.func16, Try.ntmps16
      go_wp2_with fail
      refine (hc _).mono ?_
      rintro e w1 ⟨rfl, b1⟩
      have gB := (Blk.new w 28 #[.string ⟨#[]⟩, .int .u32 0, .int .i64 0]).below b1 (by simp)
      have g2 := blk3 gB
      have b1' := ba.trans (b1.mono ba.size)
      clear b1 ba
      go_wp2_with fail
      refine bodyPost_ret (v := .tuple #[.agg #[.string s, .int .u32 (k : Int), .int .i64 m], .int .i64 0]) ?_ rfl ⟨rfl, b1'.trans (set3_below (Nat.le_refl _))⟩
      have gE := blk3 (set3_blk (v0 := .string s) (v1 := .int .u32 (k : Int)) (v2 := .int .i64 m) gB)
      change (results _ _).run _ (set3 w1 w.heap.size (.string s) (.int .u32 (k : Int)) (.int .i64 m)) = .ok (.tuple #[.agg #[.string s, .int .u32 (k : Int), .int .i64 m], .int .i64 0]) (set3 w1 w.heap.size (.string s) (.int .u32 (k : Int)) (.int .i64 m))
      generalize set3 w1 w.heap.size (.string s) (.int .u32 (k : Int)) (.int .i64 m) = W at gE ⊢
      simp [results, Try.results16, go_sem, gE]
    · have hok : okL ⟨s, k, m⟩ = false := by simpa using hok
      rw [rgt_no hok, rgE_no hok]
      by_cases hr : right s = true
      · have hc := calls_true hr0 hr
        have h3 : m < 1 ∨ 8192 < m := by
          simp only [okL, hr, Bool.true_and, decide_eq_false_iff_not] at hok
          omega
        clear hr hr0 hok
        by_cases h1 : m < 1
        · go_enter Try.func16, Try.ntmps16
          go_wp2_with fail
          refine (hc _).mono ?_
          rintro e w1 ⟨rfl, b1⟩
          have gB := (Blk.new w 28 #[.string ⟨#[]⟩, .int .u32 0, .int .i64 0]).below b1 (by simp)
          have g2 := blk3 gB
          have b1' := ba.trans (b1.mono ba.size)
          clear b1 ba
          go_wp2_with fail
          refine bodyPost_ret (v := .tuple #[.agg #[.string ⟨#[]⟩, .int .u32 0, .int .i64 0], .int .i64 12]) ?_ rfl ⟨rfl, b1'.trans (set3_below (Nat.le_refl _))⟩
          have gE := blk3 (set3_blk (v0 := .string ⟨#[]⟩) (v1 := .int .u32 0) (v2 := .int .i64 0) gB)
          change (results _ _).run _ (set3 w1 w.heap.size (.string ⟨#[]⟩) (.int .u32 0) (.int .i64 0)) = .ok (.tuple #[.agg #[.string ⟨#[]⟩, .int .u32 0, .int .i64 0], .int .i64 12]) (set3 w1 w.heap.size (.string ⟨#[]⟩) (.int .u32 0) (.int .i64 0))
          generalize set3 w1 w.heap.size (.string ⟨#[]⟩) (.int .u32 0) (.int .i64 0) = W at gE ⊢
          simp [results, Try.results16, go_sem, gE]
          
        · have h2 : 8192 < m := by omega
          clear h3
          go_enter Try.func16, Try.ntmps16
          go_wp2_with fail
          refine (hc _).mono ?_
          rintro e w1 ⟨rfl, b1⟩
          have gB := (Blk.new w 28 #[.string ⟨#[]⟩, .int .u32 0, .int .i64 0]).below b1 (by simp)
          have g2 := blk3 gB
          have b1' := ba.trans (b1.mono ba.size)
          clear b1 ba
          go_wp2_with fail
          refine bodyPost_ret (v := .tuple #[.agg #[.string ⟨#[]⟩, .int .u32 0, .int .i64 0], .int .i64 12]) ?_ rfl ⟨rfl, b1'.trans (set3_below (Nat.le_refl _))⟩
          have gE := blk3 (set3_blk (v0 := .string ⟨#[]⟩) (v1 := .int .u32 0) (v2 := .int .i64 0) gB)
          change (results _ _).run _ (set3 w1 w.heap.size (.string ⟨#[]⟩) (.int .u32 0) (.int .i64 0)) = .ok (.tuple #[.agg #[.string ⟨#[]⟩, .int .u32 0, .int .i64 0], .int .i64 12]) (set3 w1 w.heap.size (.string ⟨#[]⟩) (.int .u32 0) (.int .i64 0))
          generalize set3 w1 w.heap.size (.string ⟨#[]⟩) (.int .u32 0) (.int .i64 0) = W at gE ⊢
          simp [results, Try.results16, go_sem, gE]
      · have hc := calls_true hr0 (by simpa using hr : right s = false)
        clear hr hr0 hok
        go_enter Try.func16, Try.ntmps16
        go_wp2_with fail
        refine (hc _).mono ?_
        rintro e w1 ⟨rfl, b1⟩
        have gB := (Blk.new w 28 #[.string ⟨#[]⟩, .int .u32 0, .int .i64 0]).below b1 (by simp)
        have g2 := blk3 gB
        have b1' := ba.trans (b1.mono ba.size)
        clear b1 ba
        go_wp2_with fail
        refine bodyPost_ret (v := .tuple #[.agg #[.string ⟨#[]⟩, .int .u32 0, .int .i64 0], .int .i64 12]) ?_ rfl ⟨rfl, b1'.trans (set3_below (Nat.le_refl _))⟩
        have gE := blk3 (set3_blk (v0 := .string ⟨#[]⟩) (v1 := .int .u32 0) (v2 := .int .i64 0) gB)
        change (results _ _).run _ (set3 w1 w.heap.size (.string ⟨#[]⟩) (.int .u32 0) (.int .i64 0)) = .ok (.tuple #[.agg #[.string ⟨#[]⟩, .int .u32 0, .int .i64 0], .int .i64 12]) (set3 w1 w.heap.size (.string ⟨#[]⟩) (.int .u32 0) (.int .i64 0))
        generalize set3 w1 w.heap.size (.string ⟨#[]⟩) (.int .u32 0) (.int .i64 0) = W at gE ⊢
        simp [results, Try.results16, go_sem, gE]
  · rw [show l3 s n m = zL by simp [l3, hS], show l3E s n m = 1 by simp [l3E, hS]]
    have hS : n < 0 ∨ 4294967295 < n := by
      simp only [inS, decide_eq_true_eq] at hS
      omega
    clear hr0
    by_cases h1 : n < 0
    · clear hS
      go_enter Try.func16, Try.ntmps16
      have gB := Blk.new w 28 #[.string ⟨#[]⟩, .int .u32 0, .int .i64 0]
      go_wp2_with fail
      refine bodyPost_ret (v := .tuple #[.agg #[.string ⟨#[]⟩, .int .u32 0, .int .i64 0], .int .i64 1]) ?_ rfl ⟨rfl, ba⟩
      have gE := blk3 gB
      generalize w.alloc (.cells #[.string ⟨#[]⟩, .int .u32 0, .int .i64 0] 28) = W at gE ⊢
      simp [results, Try.results16, go_sem, gE]
      
    · have h2 : 4294967295 < n := by omega
      clear hS
      go_enter Try.func16, Try.ntmps16
      have gB := Blk.new w 28 #[.string ⟨#[]⟩, .int .u32 0, .int .i64 0]
      go_wp2_with fail
      refine bodyPost_ret (v := .tuple #[.agg #[.string ⟨#[]⟩, .int .u32 0, .int .i64 0], .int .i64 1]) ?_ rfl ⟨rfl, ba⟩
      have gE := blk3 gB
      generalize w.alloc (.cells #[.string ⟨#[]⟩, .int .u32 0, .int .i64 0] 28) = W at gE ⊢
      simp [results, Try.results16, go_sem, gE]
end Go.Proofs.Ytgopfoanhiedfaa
