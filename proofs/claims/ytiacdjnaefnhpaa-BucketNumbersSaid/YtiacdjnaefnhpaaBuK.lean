/- Law 10's helper: known. -/
import Derived.Test.YtiacdjnaefnhpaaBuS
namespace Go.Proofs.Ytiacdjnaefnhpaa
open Go.RowKit
set_option linter.unusedVariables false
set_option linter.unusedSimpArgs false
set_option maxRecDepth 20000

/-- Answers a value; old memory stays. -/
def AnsB (v : Value) (w : World) (e : Ending) (w' : World) : Prop := e = .returned v ∧ Below w.heap.size w w'
theorem Dn.ans {f : FuncId} {args : Array Value} {v : Value} {w : World} (h : Calls Try.prog f args w (Dn v w)) : Calls Try.prog f args w (AnsB v w) := h.mono fun _ _ h => ⟨h.1, h.below⟩
theorem pk_take_at {g r u l : Nat} {n : Int} {w : World} (h : PkAt w g r u l) (ok : BkOk r u l) (hn : I64 n) {l' : Nat} {b : Bool} (h1 : takeL l n = l') (h2 : takeB l n = b) : Calls Try.prog 13 #[.pointer (some ⟨g, 0, none⟩), .int .i64 n] w (PkOut g r u l' (.bool b) w) := by
  subst h1 h2
  exact pk_take g r u l n w h ok hn
theorem pk_tick_at {g r u l : Nat} {n : Int} {w : World} (h : PkAt w g r u l) (ok : BkOk r u l) (hn : I64 n) {l' : Nat} (h1 : tickN r u l n = l') : Calls Try.prog 12 #[.pointer (some ⟨g, 0, none⟩), .int .i64 n] w (PkOut g r u l' (.tuple #[]) w) := by
  subst h1
  exact pk_tick g r u l n w h ok hn
theorem pk_rate_at {g r u l : Nat} {n : Int} {w : World} (h : PkAt w g r u l) (hn : I64 n) {r' : Nat} (h1 : heldN n = r') : Calls Try.prog 16 #[.pointer (some ⟨g, 0, none⟩), .int .i64 n] w (PkOut g r' u l (.tuple #[]) w) := by
  subst h1
  exact pk_rate g r u l n w h hn
theorem pk_wait_at {g r u l : Nat} {n : Int} {w : World} (h : PkAt w g r u l) (ok : BkOk r u l) (hn : I64 n) {v : Int} (h1 : waitN r u l n = v) : Calls Try.prog 15 #[.pointer (some ⟨g, 0, none⟩), .int .i64 n] w (AnsB (.int .i64 v) w) := by
  subst h1
  exact Dn.ans (pk_wait g r u l n w h ok hn)
theorem pk_level_at {g r u l : Nat} {w : World} (h : PkAt w g r u l) (ok : BkOk r u l) {v : Nat} (h1 : l / 1000000 = v) : Calls Try.prog 17 #[.pointer (some ⟨g, 0, none⟩)] w (AnsB (.int .i64 (v : Int)) w) := by
  subst h1
  exact Dn.ans (pk_level g r u l w h ok)
theorem pk_burst_at {g r u l : Nat} {w : World} (h : PkAt w g r u l) : Calls Try.prog 23 #[.pointer (some ⟨g, 0, none⟩)] w (AnsB (.int .i64 (u : Int)) w) := Dn.ans (pk_burst g r u l w h)
theorem pk_new_at {a b : Int} {w : World} (ha : I64 a) (hb : I64 b) {r u : Nat} (h1 : heldN a = r) (h2 : heldN b = u) : Calls Try.prog 11 #[.int .i64 a, .int .i64 b] w (PkNew r u (u * 1000000) w) := by
  subst h1 h2
  exact pk_new a b ha hb w
theorem PkOut.keep {g r u l B : Nat} {v : Value} {w0 w w' : World} {e : Ending} (h : PkOut g r u l v w e w') (hg : B ≤ g) (hb : Below B w0 w) (hB : B ≤ w.heap.size) : Below B w0 w' := hb.trans (h.2.2.below hg hB)
theorem known10_any (w : World) : Calls Try.prog 9 #[] w (Yes w) := by
  have i64c : ∀ k : Int, -100000 ≤ k → k ≤ 100000 → I64 k := fun k h1 h2 => by unfold I64; omega
  have I := Lib.hid i64c
  clear i64c
  go_enter Try.func9, Try.ntmps9
  go_wp2_with fail
  refine (pk_new_at (r := 1000) (u := 5) (I.out _ (by omega) (by omega)) (I.out _ (by omega) (by omega)) (by decide) (by decide)).mono ?_
  rintro e w1 ⟨g, rfl, p0, hg, b0⟩
  have HG := Lib.hid hg
  clear hg
  go_wp2_with fail
  refine (pk_take_at (l' := 5000000) (b := false) p0 ⟨by omega, by omega, by omega⟩ (I.out _ (by omega) (by omega)) (by decide) (by decide)).mono ?_
  rintro e w2 h
  have b1 := h.keep HG.out b0 b0.size
  obtain ⟨rfl, p1, _⟩ := h
  clear b0 p0
  go_wp2_with fail
  refine (pk_take_at (l' := 0) (b := true) p1 ⟨by omega, by omega, by omega⟩ (I.out _ (by omega) (by omega)) (by decide) (by decide)).mono ?_
  rintro e w3 h
  have b2 := h.keep HG.out b1 b1.size
  obtain ⟨rfl, p2, _⟩ := h
  clear b1 p1
  go_wp2_with fail
  refine (pk_wait_at (v := (2000)) p2 ⟨by omega, by omega, by omega⟩ (I.out _ (by omega) (by omega)) (by decide)).mono ?_
  rintro e w4 ⟨rfl, d⟩
  have p3 := p2.on d
  have b3 := b2.trans (d.mono b2.size)
  clear b2 p2 d
  go_wp2_with fail
  refine (pk_tick_at (l' := 1999000) p3 ⟨by omega, by omega, by omega⟩ (I.out _ (by omega) (by omega)) (by decide)).mono ?_
  rintro e w5 h
  have b4 := h.keep HG.out b3 b3.size
  obtain ⟨rfl, p4, _⟩ := h
  clear b3 p3
  go_wp2_with fail
  refine (pk_take_at (l' := 1999000) (b := false) p4 ⟨by omega, by omega, by omega⟩ (I.out _ (by omega) (by omega)) (by decide) (by decide)).mono ?_
  rintro e w6 h
  have b5 := h.keep HG.out b4 b4.size
  obtain ⟨rfl, p5, _⟩ := h
  clear b4 p4
  go_wp2_with fail
  refine (pk_tick_at (l' := 2000000) p5 ⟨by omega, by omega, by omega⟩ (I.out _ (by omega) (by omega)) (by decide)).mono ?_
  rintro e w7 h
  have b6 := h.keep HG.out b5 b5.size
  obtain ⟨rfl, p6, _⟩ := h
  clear b5 p5
  go_wp2_with fail
  refine (pk_take_at (l' := 0) (b := true) p6 ⟨by omega, by omega, by omega⟩ (I.out _ (by omega) (by omega)) (by decide) (by decide)).mono ?_
  rintro e w8 h
  have b7 := h.keep HG.out b6 b6.size
  obtain ⟨rfl, p7, _⟩ := h
  clear b6 p6
  go_wp2_with fail
  refine (pk_level_at (v := 0) p7 ⟨by omega, by omega, by omega⟩ (by decide)).mono ?_
  rintro e w9 ⟨rfl, d⟩
  have p8 := p7.on d
  have b8 := b7.trans (d.mono b7.size)
  clear b7 p7 d
  go_wp2_with fail
  refine (pk_wait_at (v := (-1)) p8 ⟨by omega, by omega, by omega⟩ (I.out _ (by omega) (by omega)) (by decide)).mono ?_
  rintro e w10 ⟨rfl, d⟩
  have p9 := p8.on d
  have b9 := b8.trans (d.mono b8.size)
  clear b8 p8 d
  go_wp2_with fail
  refine (pk_burst_at p9).mono ?_
  rintro e w11 ⟨rfl, d⟩
  have p10 := p9.on d
  have b10 := b9.trans (d.mono b9.size)
  clear b9 p9 d
  go_wp2_with fail
  refine (pk_take_at (l' := 0) (b := true) p10 ⟨by omega, by omega, by omega⟩ (I.out _ (by omega) (by omega)) (by decide) (by decide)).mono ?_
  rintro e w12 h
  have b11 := h.keep HG.out b10 b10.size
  obtain ⟨rfl, p11, _⟩ := h
  clear b10 p10
  go_wp2_with fail
  refine (pk_take_at (l' := 0) (b := false) p11 ⟨by omega, by omega, by omega⟩ (I.out _ (by omega) (by omega)) (by decide) (by decide)).mono ?_
  rintro e w13 h
  have b12 := h.keep HG.out b11 b11.size
  obtain ⟨rfl, p12, _⟩ := h
  clear b11 p11
  go_wp2_with fail
  refine (pk_wait_at (v := (-1)) p12 ⟨by omega, by omega, by omega⟩ (I.out _ (by omega) (by omega)) (by decide)).mono ?_
  rintro e w14 ⟨rfl, d⟩
  have p13 := p12.on d
  have b13 := b12.trans (d.mono b12.size)
  clear b12 p12 d
  go_wp2_with fail
  go_ret
  exact ⟨rfl, b13⟩
end Go.Proofs.Ytiacdjnaefnhpaa
