/- Law 14's helper play: both limits beside the ask that is read. -/
import Derived.Test.YtfijlgkgbbemnaaLmX
import Derived.Test.YtfijlgkgbbemnaaAk14
import Derived.Test.YtfijlgkgbbemnaaRegD
namespace Go.Proofs.Ytfijlgkgbbemnaa
open Go.RowKit
set_option linter.unusedVariables false
set_option linter.unusedSimpArgs false
set_option maxRecDepth 20000

structure PlS (w0 : World) (G : Nat) (rb : Option Nat) (E : Ents) (S : Nat → Prop) (Gr : Nat) (rb2 : Option Nat) (E2 : Ents) (v1 v2 : Value) (c ga : Nat) (x : Ask) (W : World) : Prop where
  lms : LmS w0 G rb E S Gr rb2 E2 v1 v2 c W
  blk : Blk W ga 34 x.cells.toArray
  nS : ¬ S ga
  nR : ¬ RlS Gr v1 v2 ga
  lo : w0.heap.size ≤ ga
section
variable {w0 W W' : World} {G Gr c ga : Nat} {rb rb2 rb' : Option Nat} {E E2 E' : Ents} {S S' : Nat → Prop} {v1 v2 v a1 a2 : Value} {e : Ending} {x : Ask}
theorem PlS.on (h : PlS w0 G rb E S Gr rb2 E2 v1 v2 c ga x W) (hb : Below W.heap.size W W') : PlS w0 G rb E S Gr rb2 E2 v1 v2 c ga x W' :=
  ⟨h.lms.on hb, (hb.block ga h.blk.lt).trans h.blk, h.nS, h.nR, h.lo⟩
theorem LmS.left1 (h : LmS w0 G rb E S Gr rb2 E2 v1 v2 c W) (h1 : LmAt W' G c rb' E' S') (h2 : ∀ k, S' k → S k ∨ W.heap.size ≤ k) (h3 : OnlyS S W W') (hk : EntsOk E') (hs : SortE E') (hr : ∀ r, rb' = some r → r ≤ 1099511627776) : LmS w0 G rb' E' S' Gr rb2 E2 v1 v2 c W' := by
  refine ⟨h1, h.rl.keep h3 (fun k hk hs => h.sep k hs hk), hk, hs, h.ok2, h.cap, hr, h.rbl2, fun k hk hr => ?_, fun k hk => ?_, h.lo2, h.below.trans (h3.below h.lo h.below.size)⟩
  · rcases h2 k hk with h4 | h4
    · exact h.sep k h4 hr
    · have := h.rl.lt hr
      omega
  · rcases h2 k hk with h4 | h4
    · exact h.lo k h4
    · exact Nat.le_trans h.below.size h4
theorem LmS.right1 (h : LmS w0 G rb E S Gr rb2 E2 v1 v2 c W) (h1 : RlAt W' Gr c rb' E' a1 a2) (h2 : ∀ k, RlS Gr a1 a2 k → RlS Gr v1 v2 k ∨ W.heap.size ≤ k) (h3 : OnlyS (RlS Gr v1 v2) W W') (hk : EntsOk E') (hr : ∀ r, rb' = some r → r ≤ 1099511627776) : LmS w0 G rb E S Gr rb' E' a1 a2 c W' := by
  refine ⟨h.lm.keep h3 (fun k hk hs => h.sep k hk hs), h1, h.ok, h.so, hk, h.cap, h.rbl, hr, fun k hk hr => ?_, h.lo, fun k hk => ?_, h.below.trans (h3.below h.lo2 h.below.size)⟩
  · rcases h2 k hr with h4 | h4
    · exact h.sep k hk h4
    · have := h.lm.lt hk
      omega
  · rcases h2 k hk with h4 | h4
    · exact h.lo2 k h4
    · exact Nat.le_trans h.below.size h4
/-- The project's has turned: the ask stays. -/
theorem PlS.left (h : PlS w0 G rb E S Gr rb2 E2 v1 v2 c ga x W) (ho : LmOut G c rb' E' S v W e W') (hk : EntsOk E') (hs : SortE E') (hr : ∀ r, rb' = some r → r ≤ 1099511627776) : e = .returned v ∧ ∃ S', PlS w0 G rb' E' S' Gr rb2 E2 v1 v2 c ga x W' := by
  obtain ⟨he, S', h1, h2, h3⟩ := ho
  refine ⟨he, S', h.lms.left1 h1 h2 h3 hk hs hr, (h3.block ga h.blk.lt h.nS).trans h.blk, fun hs => ?_, h.nR, h.lo⟩
  rcases h2 ga hs with h4 | h4
  · exact h.nS h4
  · have := h.blk.lt
    omega
/-- The reference's has turned: the ask stays. -/
theorem PlS.right (h : PlS w0 G rb E S Gr rb2 E2 v1 v2 c ga x W) (ho : RlOut Gr c rb' E' v1 v2 v W e W') (hk : EntsOk E') (hr : ∀ r, rb' = some r → r ≤ 1099511627776) : e = .returned v ∧ ∃ v1' v2', PlS w0 G rb E S Gr rb' E' v1' v2' c ga x W' := by
  obtain ⟨he, a1, a2, h1, h2, h3⟩ := ho
  refine ⟨he, a1, a2, h.lms.right1 h1 h2 h3 hk hr, (h3.block ga h.blk.lt h.nR).trans h.blk, h.nS, fun hs => ?_, h.lo⟩
  rcases h2 ga hs with h4 | h4
  · exact h.nR h4
  · have := h.blk.lt
    omega
/-- The reference's REMB is laid: the ask stays. -/
theorem PlS.remb (h : PlS w0 G rb E S Gr rb2 E2 v1 v2 c ga x W) {n : Nat} (hn : n ≤ 1099511627776) : PlS w0 G rb E S Gr (some n) E2 v1 v2 c ga x (W.setCell ⟨Gr, 1, none⟩ (.int .i64 (n : Int))) :=
  ⟨h.lms.remb hn, ((OnlyS.one (S := fun k => k = Gr) (Only.set Gr 1 W (.int .i64 (n : Int))) rfl).block ga h.blk.lt (fun e => h.nR (.inl e))).trans h.blk, h.nS, h.nR, h.lo⟩
/-- The calls, at what is known of both. -/
theorem pl_tmmbr (h : PlS w0 G rb E S Gr rb2 E2 v1 v2 c ga x W) (hin : x.t.In) (hn : I64 x.n) : Calls Try.prog 14 #[.pointer (some ⟨G, 0, none⟩), x.t.val, .int .i64 x.n] W (fun e W' => e = .returned (.bool (okE E x.t.owner)) ∧ ∃ S', PlS w0 G rb (putE E ⟨x.t, untilE x.n⟩) S' Gr rb2 E2 v1 v2 c ga x W') :=
  (lm_tmmbr (o := x.t.owner) (r := x.t.rate) (v := x.t.over) h.lms.lm h.lms.ok h.lms.so hin hn).mono fun e W' ho => h.left ho (h.lms.ok.put ⟨hin, untilE_i64 hn⟩) (h.lms.so.put _) h.lms.rbl
theorem pl_tmmbr2 (h : PlS w0 G rb E S Gr rb2 E2 v1 v2 c ga x W) (hin : x.t.In) (hn : I64 x.n) : Calls Try.prog 24 #[.pointer (some ⟨Gr, 0, none⟩), x.t.val, .int .i64 x.n] W (fun e W' => e = .returned (.bool (okE E2 x.t.owner)) ∧ ∃ v1' v2', PlS w0 G rb E S Gr rb2 (putE E2 ⟨x.t, untilE x.n⟩) v1' v2' c ga x W') :=
  (ref_tmmbr (o := x.t.owner) (r := x.t.rate) (v := x.t.over) h.lms.rl h.lms.ok2 hin hn).mono fun e W' ho => h.right ho (h.lms.ok2.put ⟨hin, untilE_i64 hn⟩) h.lms.rbl2
theorem pl_tick (h : PlS w0 G rb E S Gr rb2 E2 v1 v2 c ga x W) (hn : I64 x.n) : Calls Try.prog 17 #[.pointer (some ⟨G, 0, none⟩), .int .i64 x.n] W (fun e W' => e = .returned (.int .i64 ((E.length - (tickE E x.n).length : Nat) : Int)) ∧ ∃ S', PlS w0 G rb (tickE E x.n) S' Gr rb2 E2 v1 v2 c ga x W') :=
  (lm_tick h.lms.lm h.lms.ok h.lms.so hn).mono fun e W' ho => h.left ho (h.lms.ok.tick x.n) (h.lms.so.tick x.n) h.lms.rbl
theorem pl_tick2 (h : PlS w0 G rb E S Gr rb2 E2 v1 v2 c ga x W) (hn : I64 x.n) : Calls Try.prog 23 #[.pointer (some ⟨Gr, 0, none⟩), .int .i64 x.n] W (fun e W' => e = .returned (.int .i64 ((E2.length - (tickE E2 x.n).length : Nat) : Int)) ∧ ∃ v1' v2', PlS w0 G rb E S Gr rb2 (tickE E2 x.n) v1' v2' c ga x W') :=
  (ref_tickL h.lms.rl h.lms.ok2 hn).mono fun e W' ho => h.right ho (h.lms.ok2.tick x.n) h.lms.rbl2
theorem pl_remb (h : PlS w0 G rb E S Gr rb2 E2 v1 v2 c ga x W) (hin : x.t.In) : Calls Try.prog 16 #[.pointer (some ⟨G, 0, none⟩), .int .u64 (x.t.rate : Int)] W (fun e W' => e = .returned (.tuple #[]) ∧ ∃ S', PlS w0 G (some (btR x.t.rate)) E S' Gr rb2 E2 v1 v2 c ga x W') :=
  (lm_remb h.lms.lm hin.rate).mono fun e W' ho => h.left ho h.lms.ok h.lms.so (fun r hr => by injection hr with hr; rw [← hr]; exact Nat.min_le_right _ _)
end
end Go.Proofs.Ytfijlgkgbbemnaa
