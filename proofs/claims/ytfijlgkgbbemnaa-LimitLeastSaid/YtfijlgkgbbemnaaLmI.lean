/- The project's limit, as the law's walks ask it: its contracts by what it holds and the blocks that it stands on. -/
import Derived.Test.YtfijlgkgbbemnaaNd
import Derived.Test.YtfijlgkgbbemnaaLmU
namespace Go.Proofs.Ytfijlgkgbbemnaa
open Go.RowKit
set_option linter.unusedVariables false
set_option linter.unusedSimpArgs false
set_option maxRecDepth 20000

def LmAt (w : World) (G c : Nat) (rb : Option Nat) (E : Ents) (S : Nat → Prop) : Prop := ∃ rm v, LpAt w G c rm v E ∧ RmB rm rb ∧ S = fun k => k = G ∨ v.ownBlock = some k
theorem LmAt.lt {w : World} {G c : Nat} {rb : Option Nat} {E : Ents} {S : Nat → Prop} (h : LmAt w G c rb E S) {k : Nat} (hk : S k) : k < w.heap.size := by
  obtain ⟨rm, v, h1, _, rfl⟩ := h
  rcases hk with rfl | hk
  · exact h1.blk.lt
  · exact (h1.own.lt hk).2
theorem LmAt.keep {w w' : World} {G c : Nat} {rb : Option Nat} {E : Ents} {S T : Nat → Prop} (h : LmAt w G c rb E S) (ho : OnlyS T w w') (hd : ∀ k, S k → ¬ T k) : LmAt w' G c rb E S := by
  obtain ⟨rm, v, h1, h2, rfl⟩ := h
  exact ⟨rm, v, h1.keep ho (hd G (.inl rfl)) (fun k hk => hd k (.inr hk)), h2, rfl⟩
/-- What a method leaves that turns its limit. -/
def LmOut (G c : Nat) (rb : Option Nat) (E : Ents) (S : Nat → Prop) (v : Value) (w : World) (e : Ending) (w' : World) : Prop :=
  e = .returned v ∧ ∃ S', LmAt w' G c rb E S' ∧ (∀ k, S' k → S k ∨ w.heap.size ≤ k) ∧ OnlyS S w w'
theorem lm_new (a : Int) (ha : I64 a) (w : World) : Calls Try.prog 13 #[.int .i64 a] w (fun e w' => ∃ G S, e = .returned (.pointer (some ⟨G, 0, none⟩)) ∧ LmAt w' G (capN a) none [] S ∧ (∀ k, S k → w.heap.size ≤ k) ∧ Below w.heap.size w w') := by
  refine (lp_new a ha w).mono ?_
  rintro e w' ⟨G, he, h1, h2, h3⟩
  refine ⟨G, _, he, ⟨maxU, _, h1, ⟨by decide, .inl ⟨rfl, rfl⟩⟩, rfl⟩, fun k hk => ?_, h3⟩
  rcases hk with rfl | hk
  · exact h2
  · cases hk
section
variable {w : World} {G c : Nat} {rb : Option Nat} {E : Ents} {S : Nat → Prop}
theorem lm_tmmbr (h : LmAt w G c rb E S) (ok : EntsOk E) (so : SortE E) {o r : Nat} {v : Int} (hin : (⟨o, r, v⟩ : Tup).In) {now : Int} (hnow : I64 now) : Calls Try.prog 14 #[.pointer (some ⟨G, 0, none⟩), .agg #[.int .u32 (o : Int), .int .u64 (r : Int), .int .i64 v], .int .i64 now] w (LmOut G c rb (putE E ⟨⟨o, r, v⟩, untilE now⟩) S (.bool (okE E o)) w) := by
  obtain ⟨rm, v1, h1, h2, rfl⟩ := h
  refine (lp_tmmbr h1 ok hin hnow).mono ?_
  rintro e w' ⟨he, v', k1, k2, k3⟩
  refine ⟨he, _, ⟨rm, v', k1, h2, rfl⟩, fun k hk => ?_, k2⟩
  rcases hk with rfl | hk
  · exact .inl (.inl rfl)
  · rcases k3 k hk with k4 | k4
    · exact .inl (.inr k4)
    · exact .inr k4
theorem lm_remb (h : LmAt w G c rb E S) {r : Nat} (hr : r < 18446744073709551616) : Calls Try.prog 16 #[.pointer (some ⟨G, 0, none⟩), .int .u64 (r : Int)] w (LmOut G c (some (btR r)) E S (.tuple #[]) w) := by
  obtain ⟨rm, v1, h1, h2, rfl⟩ := h
  refine (lp_remb h1 r).mono ?_
  rintro e w' ⟨he, k1, k2⟩
  exact ⟨he, _, ⟨r, v1, k1, ⟨hr, .inr rfl⟩, rfl⟩, fun k hk => .inl hk, OnlyS.one k2 (.inl rfl)⟩
theorem lm_tick (h : LmAt w G c rb E S) (ok : EntsOk E) (so : SortE E) {now : Int} (hnow : I64 now) : Calls Try.prog 17 #[.pointer (some ⟨G, 0, none⟩), .int .i64 now] w (LmOut G c rb (tickE E now) S (.int .i64 ((E.length - (tickE E now).length : Nat) : Int)) w) := by
  obtain ⟨rm, v1, h1, h2, rfl⟩ := h
  refine (lp_tick h1 (by have := ok.len; omega) now).mono ?_
  rintro e w' ⟨he, v', k1, k2, k3⟩
  refine ⟨he, _, ⟨rm, v', k1, h2, rfl⟩, fun k hk => ?_, k2⟩
  rcases hk with rfl | hk
  · exact .inl (.inl rfl)
  · exact .inl (.inr (k3 k hk))
theorem lm_rate (h : LmAt w G c rb E S) (ok : EntsOk E) (so : SortE E) (hc : c ≤ 1099511627776) (hrb : ∀ r, rb = some r → r ≤ 1099511627776) : Calls Try.prog 15 #[.pointer (some ⟨G, 0, none⟩)] w (AnsB (.int .i64 ((limV c rb E : Nat) : Int)) w) := by
  obtain ⟨rm, v1, h1, h2, rfl⟩ := h
  exact lp_rate h1 ok hc h2
theorem lm_tuples (h : LmAt w G c rb E S) (ok : EntsOk E) (so : SortE E) : Calls Try.prog 18 #[.pointer (some ⟨G, 0, none⟩)] w (RowOut w E.T) := by
  obtain ⟨rm, v1, h1, h2, rfl⟩ := h
  exact lp_tuples h1 (by have := ok.len; omega) ok.ins
theorem lm_set (h : LmAt w G c rb E S) (ok : EntsOk E) (so : SortE E) : Calls Try.prog 19 #[.pointer (some ⟨G, 0, none⟩)] w (SetOut E.T w) := by
  obtain ⟨rm, v1, h1, h2, rfl⟩ := h
  exact lp_set h1 (by have := ok.len; omega) ok.ins
end
end Go.Proofs.Ytfijlgkgbbemnaa
