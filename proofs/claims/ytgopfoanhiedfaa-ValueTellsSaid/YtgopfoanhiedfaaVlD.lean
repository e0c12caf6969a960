/- value.Layer: of a layer alone, of three values, of anything else. -/
import Derived.Test.YtgopfoanhiedfaaVlC
namespace Go.Proofs.Ytgopfoanhiedfaa
open Go.RowKit
set_option linter.unusedVariables false
set_option linter.unusedSimpArgs false
set_option maxRecDepth 20000

theorem RX.any {w : World} {B : Nat} {A : Option Addr} {n c : Nat} {vs : List Value} (h : RX w B A n c 1 vs) (hn : 0 < n) : ∃ b off, A = some ⟨b, off, none⟩ ∧ b < B ∧ ∀ j v, vs[j]? = some v → w.cell? ⟨b, off + j, none⟩ = some v := h.2.2 hn
/-- A value that is no layer. -/
def NoLay (v : Value) : Prop := AsT v 28 zL.val false
theorem NoLay.of (u : TypeId) (v : Value) (h : u ≠ 28) : NoLay (.iface u v) := as_no u v 28 (by simp [askedT]) h
theorem NoLay.nil : NoLay .nilIface := as_nil 28 (by simp [askedT])
theorem layer_one (A : Option Addr) (c : Nat) (x : Lay) (w : World) (hx : x.In) (h : RX w w.heap.size A 1 c 1 [.iface 28 x.val]) : Calls Try.prog 9 #[.slice A 1 c] w (Ans (.tuple #[(rgt x).val, .int .i64 (rgE x)]) w) := by
  obtain ⟨b, off, rfl, hlt, hcs⟩ := h.any (by omega)
  have hc0 := hcs 0 _ rfl
  rw [Nat.add_zero] at hc0
  have h1 := as_yes_lay x.val
  unfold AsT at h1
  have hc1 := h.2.1
  clear hcs h
  have hR := fun w => right_lay x w hx
  obtain ⟨y, hy⟩ : ∃ y, y = rgt x := ⟨_, rfl⟩
  obtain ⟨k, hk⟩ : ∃ k, k = rgE x := ⟨_, rfl⟩
  rw [← hy, ← hk] at hR ⊢
  clear hy hk hx
  have ba := below_alloc w (.cells #[.string ⟨#[]⟩, .int .u32 0, .int .i64 0] 28)
  go_enter Try.func9, Try.ntmps9
  go_wp2_with fail
  refine (hR _).mono ?_
  rintro e w1 ⟨rfl, b1⟩
  have gB := ((Blk.new w 28 #[.string ⟨#[]⟩, .int .u32 0, .int .i64 0]).alloc (.cells #[.string x.rid, .int .u32 (x.ssrc : Int), .int .i64 x.height] 28)).below b1 (by simp; omega)
  have g2 := blk3 gB
  have bb := ba.alloc ba.size (.cells #[.string x.rid, .int .u32 (x.ssrc : Int), .int .i64 x.height] 28)
  have b1' := bb.trans (b1.mono bb.size)
  clear b1 ba bb
  go_wp2_with fail
  refine bodyPost_ret (v := .tuple #[.agg #[.string y.rid, .int .u32 (y.ssrc : Int), .int .i64 y.height], .int .i64 k]) ?_ rfl ⟨rfl, b1'.trans (set3_below (Nat.le_refl _))⟩
  have gE := blk3 (set3_blk (v0 := .string y.rid) (v1 := .int .u32 (y.ssrc : Int)) (v2 := .int .i64 y.height) gB)
  change (results _ _).run _ (set3 w1 w.heap.size (.string y.rid) (.int .u32 (y.ssrc : Int)) (.int .i64 y.height)) = .ok (.tuple #[.agg #[.string y.rid, .int .u32 (y.ssrc : Int), .int .i64 y.height], .int .i64 k]) (set3 w1 w.heap.size (.string y.rid) (.int .u32 (y.ssrc : Int)) (.int .i64 y.height))
  generalize set3 w1 w.heap.size (.string y.rid) (.int .u32 (y.ssrc : Int)) (.int .i64 y.height) = W at gE ⊢
  simp [results, Try.results9, go_sem, gE]
theorem layer_few (A : Option Addr) (n c : Nat) (w : World) (h1 : n ≠ 1) (h3 : n ≠ 3) : Calls Try.prog 9 #[.slice A n c] w (Ans (.tuple #[zL.val, .int .i64 1]) w) := by
  have t1 : ((n : Int) == 1) = false := by simp; omega
  have t3 : ((n : Int) != 3) = true := by simp; omega
  have t1' : ¬ n = 1 := h1
  have t3' : ¬ n = 3 := h3
  clear h1 h3
  have ba := below_alloc w (.cells #[.string ⟨#[]⟩, .int .u32 0, .int .i64 0] 28)
  have gB := Blk.new w 28 #[.string ⟨#[]⟩, .int .u32 0, .int .i64 0]
  go_enter Try.func9, Try.ntmps9
  go_wp2_with fail
  refine bodyPost_ret (v := .tuple #[.agg #[.string ⟨#[]⟩, .int .u32 0, .int .i64 0], .int .i64 1]) ?_ rfl ⟨rfl, ba⟩
  have gE := blk3 gB
  generalize (w.alloc (.cells #[.string ⟨#[]⟩, .int .u32 0, .int .i64 0] 28)) = W at gE ⊢
  simp [results, Try.results9, go_sem, gE]
theorem layer_not (A : Option Addr) (c : Nat) (v : Value) (w : World) (hv : NoLay v) (h : RX w w.heap.size A 1 c 1 [v]) : Calls Try.prog 9 #[.slice A 1 c] w (Ans (.tuple #[zL.val, .int .i64 1]) w) := by
  obtain ⟨b, off, rfl, hlt, hcs⟩ := h.any (by omega)
  have hc0 := hcs 0 _ rfl
  rw [Nat.add_zero] at hc0
  have hc1 := h.2.1
  clear hcs h
  unfold NoLay AsT at hv
  rw [zL_val] at hv
  have ba := below_alloc w (.cells #[.string ⟨#[]⟩, .int .u32 0, .int .i64 0] 28)
  have gB := Blk.new w 28 #[.string ⟨#[]⟩, .int .u32 0, .int .i64 0]
  go_enter Try.func9, Try.ntmps9
  go_wp2_with fail
  refine bodyPost_ret (v := .tuple #[.agg #[.string ⟨#[]⟩, .int .u32 0, .int .i64 0], .int .i64 1]) ?_ rfl ⟨rfl, ba.alloc ba.size _⟩
  have gE := blk3 (gB.alloc (.cells #[.string ⟨#[]⟩, .int .u32 0, .int .i64 0] 28))
  generalize ((w.alloc (.cells #[.string ⟨#[]⟩, .int .u32 0, .int .i64 0] 28)).alloc (.cells #[.string ⟨#[]⟩, .int .u32 0, .int .i64 0] 28)) = W at gE ⊢
  simp [results, Try.results9, go_sem, gE]
theorem layer3_yes (A : Option Addr) (c : Nat) (s : ByteArray) (v1 v2 : Value) (n m : Int) (o1 o2 : Bool) (w : World) (hs : s.size ≤ 140737488355328) (hn : I64 n) (hm : I64 m) (i1 : IntOut v1 n o1) (i2 : IntOut v2 m o2) (ho1 : o1 = true) (ho2 : o2 = true) (hS : inS n = true)
    (h : RX w w.heap.size A 3 c 1 [.iface 9 (.string s), v1, v2]) : Calls Try.prog 9 #[.slice A 3 c] w (Ans (.tuple #[(l3 s n m).val, .int .i64 (l3E s n m)]) w) := by
  subst ho1 ho2
  obtain ⟨k, rfl, hk⟩ := inS_of hS
  have hR := fun w => right_lay ⟨s, k, m⟩ w ⟨hs, by show k < _; omega, hm⟩
  rw [show l3 s (k : Int) m = rgt ⟨s, k, m⟩ by simp [l3, hS], show l3E s (k : Int) m = rgE ⟨s, k, m⟩ by simp [l3E, hS]]
  obtain ⟨y, hy⟩ : ∃ y, y = rgt ⟨s, k, m⟩ := ⟨_, rfl⟩
  obtain ⟨z, hz⟩ : ∃ z, z = rgE ⟨s, k, m⟩ := ⟨_, rfl⟩
  rw [← hy, ← hz] at hR ⊢
  simp only at hR
  clear hy hz hS hn hm
  obtain ⟨b, off, rfl, hlt, hcs⟩ := h.any (by omega)
  have hc0 := hcs 0 _ rfl
  rw [Nat.add_zero] at hc0
  have hc1 := hcs 1 _ rfl
  have hc2 := hcs 2 _ rfl
  have hcc := h.2.1
  have ha := as_yes_str (.string s)
  unfold AsT at ha
  unfold IntOut at i1 i2
  clear hcs h
  have ba := below_alloc w (.cells #[.string ⟨#[]⟩, .int .u32 0, .int .i64 0] 28)
  go_enter Try.func9, Try.ntmps9
  go_wp2_with fail
  refine (i1 _).mono ?_
  rintro e w1 ⟨rfl, b1⟩
  have gB := (Blk.new w 28 #[.string ⟨#[]⟩, .int .u32 0, .int .i64 0]).below b1 (by simp)
  have b1' := ba.trans (b1.mono ba.size)
  have d2 : w1.cell? ⟨b, off + 2, none⟩ = some v2 := (b1'.cell (p := ⟨b, off + 2, none⟩) hlt).trans hc2
  clear b1 ba hc0 hc1 hc2
  go_wp2_with fail
  refine (i2 _).mono ?_
  rintro e w2 ⟨rfl, b2⟩
  have gC := gB.below b2 gB.lt
  have b2' := b1'.trans (b2.mono b1'.size)
  clear b2 b1' gB d2
  go_wp2_with fail
  refine (hR _).mono ?_
  rintro e w3 ⟨rfl, b3⟩
  have gD := gC.below b3 gC.lt
  have g2 := blk3 gD
  have b3' := b2'.trans (b3.mono b2'.size)
  clear b3 b2' gC
  go_wp2_with fail
  refine bodyPost_ret (v := .tuple #[.agg #[.string y.rid, .int .u32 (y.ssrc : Int), .int .i64 y.height], .int .i64 z]) ?_ rfl ⟨rfl, b3'.trans (set3_below (Nat.le_refl _))⟩
  have gE := blk3 (set3_blk (v0 := .string y.rid) (v1 := .int .u32 (y.ssrc : Int)) (v2 := .int .i64 y.height) gD)
  change (results _ _).run _ (set3 w3 w.heap.size (.string y.rid) (.int .u32 (y.ssrc : Int)) (.int .i64 y.height)) = .ok (.tuple #[.agg #[.string y.rid, .int .u32 (y.ssrc : Int), .int .i64 y.height], .int .i64 z]) (set3 w3 w.heap.size (.string y.rid) (.int .u32 (y.ssrc : Int)) (.int .i64 y.height))
  generalize set3 w3 w.heap.size (.string y.rid) (.int .u32 (y.ssrc : Int)) (.int .i64 y.height) = W at gE ⊢
  simp [results, Try.results9, go_sem, gE]
theorem layer3_no (A : Option Addr) (c : Nat) (s : ByteArray) (v1 v2 : Value) (n m : Int) (o1 o2 : Bool) (w : World) (hs : s.size ≤ 140737488355328) (hn : I64 n) (hm : I64 m) (i1 : IntOut v1 n o1) (i2 : IntOut v2 m o2) (ho : o1 = false ∨ o2 = false ∨ n < 0 ∨ 4294967295 < n)
    (h : RX w w.heap.size A 3 c 1 [.iface 9 (.string s), v1, v2]) : Calls Try.prog 9 #[.slice A 3 c] w (Ans (.tuple #[zL.val, .int .i64 1]) w) := by
  unfold I64 at hn hm
  have ho : o1 = false ∨ (o1 = true ∧ o2 = false) ∨ (o1 = true ∧ o2 = true ∧ n < 0) ∨ (o1 = true ∧ o2 = true ∧ ¬ n < 0 ∧ 4294967295 < n) := by
    rcases ho with h | h | h | h <;> cases o1 <;> cases o2 <;> simp_all <;> omega
  rw [zL_val]
  obtain ⟨b, off, rfl, hlt, hcs⟩ := h.any (by omega)
  have hc0 := hcs 0 _ rfl
  rw [Nat.add_zero] at hc0
  have hc1 := hcs 1 _ rfl
  have hc2 := hcs 2 _ rfl
  have hcc := h.2.1
  have ha := as_yes_str (.string s)
  unfold AsT at ha
  unfold IntOut at i1 i2
  clear hcs h
  have ba := below_alloc w (.cells #[.string ⟨#[]⟩, .int .u32 0, .int .i64 0] 28)
  go_enter Try.func9, Try.ntmps9
  go_wp2_with fail
  refine (i1 _).mono ?_
  rintro e w1 ⟨rfl, b1⟩
  have gB := (Blk.new w 28 #[.string ⟨#[]⟩, .int .u32 0, .int .i64 0]).below b1 (by simp)
  have b1' := ba.trans (b1.mono ba.size)
  have d2 : w1.cell? ⟨b, off + 2, none⟩ = some v2 := (b1'.cell (p := ⟨b, off + 2, none⟩) hlt).trans hc2
  clear b1 ba hc0 hc1 hc2
  go_wp2_with fail
  refine (i2 _).mono ?_
  rintro e w2 ⟨rfl, b2⟩
  have gC := gB.below b2 gB.lt
  have b2' := b1'.trans (b2.mono b1'.size)
  clear b2 b1' gB d2
  have g2 := blk3 gC
  rcases ho with h1 | ⟨h1, h2⟩ | ⟨h1, h2, h3⟩ | ⟨h1, h2, h3, h4⟩
  · subst h1
    go_wp2_with fail
    refine bodyPost_ret (v := .tuple #[.agg #[.string ⟨#[]⟩, .int .u32 0, .int .i64 0], .int .i64 1]) ?_ rfl ⟨rfl, b2'.trans (set3_below (Nat.le_refl _))⟩
    have gE := blk3 (set3_blk (v0 := .string ⟨#[]⟩) (v1 := .int .u32 0) (v2 := .int .i64 0) gC)
    change (results _ _).run _ (set3 w2 w.heap.size (.string ⟨#[]⟩) (.int .u32 0) (.int .i64 0)) = .ok (.tuple #[.agg #[.string ⟨#[]⟩, .int .u32 0, .int .i64 0], .int .i64 1]) (set3 w2 w.heap.size (.string ⟨#[]⟩) (.int .u32 0) (.int .i64 0))
    generalize set3 w2 w.heap.size (.string ⟨#[]⟩) (.int .u32 0) (.int .i64 0) = W at gE ⊢
    simp [results, Try.results9, go_sem, gE]
  · subst h1 h2
    go_wp2_with fail
    refine bodyPost_ret (v := .tuple #[.agg #[.string ⟨#[]⟩, .int .u32 0, .int .i64 0], .int .i64 1]) ?_ rfl ⟨rfl, b2'.trans (set3_below (Nat.le_refl _))⟩
    have gE := blk3 (set3_blk (v0 := .string ⟨#[]⟩) (v1 := .int .u32 0) (v2 := .int .i64 0) gC)
    change (results _ _).run _ (set3 w2 w.heap.size (.string ⟨#[]⟩) (.int .u32 0) (.int .i64 0)) = .ok (.tuple #[.agg #[.string ⟨#[]⟩, .int .u32 0, .int .i64 0], .int .i64 1]) (set3 w2 w.heap.size (.string ⟨#[]⟩) (.int .u32 0) (.int .i64 0))
    generalize set3 w2 w.heap.size (.string ⟨#[]⟩) (.int .u32 0) (.int .i64 0) = W at gE ⊢
    simp [results, Try.results9, go_sem, gE]
  · subst h1 h2
    go_wp2_with fail
    refine bodyPost_ret (v := .tuple #[.agg #[.string ⟨#[]⟩, .int .u32 0, .int .i64 0], .int .i64 1]) ?_ rfl ⟨rfl, b2'.trans (set3_below (Nat.le_refl _))⟩
    have gE := blk3 (set3_blk (v0 := .string ⟨#[]⟩) (v1 := .int .u32 0) (v2 := .int .i64 0) gC)
    change (results _ _).run _ (set3 w2 w.heap.size (.string ⟨#[]⟩) (.int .u32 0) (.int .i64 0)) = .ok (.tuple #[.agg #[.string ⟨#[]⟩, .int .u32 0, .int .i64 0], .int .i64 1]) (set3 w2 w.heap.size (.string ⟨#[]⟩) (.int .u32 0) (.int .i64 0))
    generalize set3 w2 w.heap.size (.string ⟨#[]⟩) (.int .u32 0) (.int .i64 0) = W at gE ⊢
    simp [results, Try.results9, go_sem, gE]
  · subst h1 h2
    go_wp2_with fail
    refine bodyPost_ret (v := .tuple #[.agg #[.string ⟨#[]⟩, .int .u32 0, .int .i64 0], .int .i64 1]) ?_ rfl ⟨rfl, b2'.trans (set3_below (Nat.le_refl _))⟩
    have gE := blk3 (set3_blk (v0 := .string ⟨#[]⟩) (v1 := .int .u32 0) (v2 := .int .i64 0) gC)
    change (results _ _).run _ (set3 w2 w.heap.size (.string ⟨#[]⟩) (.int .u32 0) (.int .i64 0)) = .ok (.tuple #[.agg #[.string ⟨#[]⟩, .int .u32 0, .int .i64 0], .int .i64 1]) (set3 w2 w.heap.size (.string ⟨#[]⟩) (.int .u32 0) (.int .i64 0))
    generalize set3 w2 w.heap.size (.string ⟨#[]⟩) (.int .u32 0) (.int .i64 0) = W at gE ⊢
    simp [results, Try.results9, go_sem, gE]
end Go.Proofs.Ytgopfoanhiedfaa
