/- While an ask of law 12 is answered: what stands; the frames of its two drawn regions. -/
import Derived.Test.YtkhhaokelhmikaaAlK
import Derived.Test.YtkhhaokelhmikaaAk12
import Derived.Test.YtkhhaokelhmikaaRegF
namespace Go.Proofs.Ytkhhaokelhmikaa
open Go.RowKit
set_option linter.unusedVariables false
set_option linter.unusedSimpArgs false
set_option maxRecDepth 20000

theorem own_onlyS {w w' : World} {base size n : Nat} {e : TypeId} {v : Value} {xs : List Value} {S : Nat → Prop} (h : w.ownsRow base e size v n xs) (ho : OnlyS S w w') (hs : ∀ k, v.ownBlock = some k → ¬ S k) : w'.ownsRow base e size v n xs := by
  refine ⟨h.1, ?_⟩
  rcases h.2 with h1 | ⟨g, cap, cur, hv, hb, hg, hc⟩
  · exact .inl h1
  · refine .inr ⟨g, cap, cur, hv, hb, ?_, hc⟩
    have hlt := (Array.getElem?_eq_some_iff.1 hg).1
    exact (ho.block g hlt (hs g (by rw [hv]; rfl))).trans hg
theorem own_less {w : World} {base b2 size n : Nat} {e : TypeId} {v : Value} {xs : List Value} (h : w.ownsRow base e size v n xs) (hb : b2 ≤ base) : w.ownsRow b2 e size v n xs := by
  refine ⟨h.1, ?_⟩
  rcases h.2 with h1 | ⟨g, cap, cur, hv, hg⟩
  · exact .inl h1
  · exact .inr ⟨g, cap, cur, hv, Nat.le_trans hb hg.1, hg.2⟩
/-- A frame of what stays over new memory. -/
def belF (I : World → Prop) (hI : ∀ a b, I a → Below a.heap.size a b → I b) : Frame where
  I := I
  Fr := fun a b => Below a.heap.size a b
  refl := fun w _ => Below.refl _ w
  trans := fun a b c h k => h.trans (k.mono h.size)
  drew := fun W h => ⟨hI _ _ h (belowDrewN W 1), belowDrewN W 1⟩
/-- While an ask is answered: the table holds L, the row holds M; the ask lies in a block of its own. -/
structure Pm (w0 : World) (G ga : Nat) (kd : Int) (kk : Nat) (nn : Int) (L M : List Du) (S : Nat → Prop) (v : Value) (W : World) : Prop where
  tb : TbS w0 G L S W
  row : OwnD W w0.heap.size v M
  sep : ∀ k, v.ownBlock = some k → ¬ S k
  ask : Blk W ga 25 #[.int .i64 kd, .int .u64 (kk : Int), .int .i64 nn]
  nga : ¬ S ga
  glo : w0.heap.size ≤ ga
  ins : InD M
  len : M.length ≤ 1000
section
variable {w0 W W' : World} {G ga : Nat} {kd nn : Int} {kk : Nat} {L L' M M' : List Du} {S : Nat → Prop} {e : Ending} {v u : Value}
theorem Pm.on (h : Pm w0 G ga kd kk nn L M S v W) (hb : Below W.heap.size W W') : Pm w0 G ga kd kk nn L M S v W' :=
  ⟨h.tb.on hb, h.row.on hb, h.sep, (hb.block ga h.ask.lt).trans h.ask, h.nga, h.glo, h.ins, h.len⟩
theorem Pm.turn (h : Pm w0 G ga kd kk nn L M S v W) {S' : Nat → Prop} (ht : TbAt W' G L' S') (hS : ∀ k, S' k → S k ∨ W.heap.size ≤ k) (ho : OnlyS S W W') (hk : Keys L') (hi : InD L') (hl : L'.length ≤ 100000) : Pm w0 G ga kd kk nn L' M S' v W' :=
  ⟨h.tb.turn ht hS ho hk hi hl, own_onlyS h.row ho h.sep, fun k hv hk => by
    rcases hS k hk with h1 | h1
    · exact h.sep k hv h1
    · have := (World.ownsRow.lt h.row k hv).2
      omega, h.ask.onlyS ho h.nga, fun hk => by
    rcases hS ga hk with h1 | h1
    · exact h.nga h1
    · have := h.ask.lt
      omega, h.glo, h.ins, h.len⟩
theorem Pm.out (h : Pm w0 G ga kd kk nn L M S v W) (ho : TbOut G L' S u W e W') (hk : Keys L') (hi : InD L') (hl : L'.length ≤ 100000) : e = .returned u ∧ ∃ S', Pm w0 G ga kd kk nn L' M S' v W' := by
  obtain ⟨h1, S', h2, h3, h4⟩ := ho
  exact ⟨h1, S', h.turn h2 h3 h4 hk hi hl⟩
/-- A row of one's own, made behind world W. -/
theorem Pm.redo (h : Pm w0 G ga kd kk nn L M S v W) (ho : OwnD W' W.heap.size u M') (hb : Below W.heap.size W W') (hi : InD M') (hl : M'.length ≤ 1000) : Pm w0 G ga kd kk nn L M' S u W' :=
  ⟨h.tb.on hb, own_less ho h.tb.below.size, fun k hk hs => by
    have h1 := (World.ownsRow.lt ho k hk).1
    have h2 := h.tb.tb.lt hs
    omega, (hb.block ga h.ask.lt).trans h.ask, h.nga, h.glo, hi, hl⟩
/-- A row behind block B is written to. -/
theorem Pm.grown (h : Pm w0 G ga kd kk nn L M S v W) {B : Nat} (hb : Below B W W') (hS : ∀ k, S k → k < B) (hga : ga < B) (h0 : w0.heap.size ≤ B) (ho : OwnD W' B u M') (hi : InD M') (hl : M'.length ≤ 1000) : Pm w0 G ga kd kk nn L M' S u W' :=
  ⟨⟨h.tb.tb.keep (T := fun k => B ≤ k) ⟨hb.os, hb.tape, hb.output, hb.size, fun k hk hn => hb.block k (by omega)⟩ (fun k hk hB => by have := hS k hk; omega), h.tb.keys, h.tb.ins, h.tb.len, h.tb.lo, h.tb.below.trans (hb.mono h0)⟩, own_less ho h0, fun k hk hs => by
    have h1 := (World.ownsRow.lt ho k hk).1
    have h2 := hS k hs
    omega, (hb.block ga hga).trans h.ask, h.nga, h.glo, hi, hl⟩
theorem Pm.rd (h : Pm w0 G ga kd kk nn L M S v W) : ∃ A c, v = .slice A M.length c ∧ RD W W.heap.size A M.length c M := by
  obtain ⟨A, c, e, hr, _⟩ := h.row.rd h.ins
  exact ⟨A, c, e, hr⟩
end
/-! ### Cuts -/
def cutD (A : Option Addr) (c k : Nat) : Option Addr := if c = k then A else A.map (·.add (k * 2))
theorem run_fromD (w : World) (A : Option Addr) (n c k : Nat) (hk : k ≤ n) (hn : n ≤ c) :
    (Instr.slice 32 (.slice A n c) (some (.int .i64 (k : Int))) none none).run Try.prog w = .ok (.slice (cutD A c k) (n - k) (c - k)) w := by
  have hs : (Try.prog.elem 32) = 35 := by simp [Program.elem, Try.underlying32]
  have h3 := run_slice_l (P := Try.prog) w 32 A n c (by rw [hs]; exact Try.underlying32) .i64 (k : Nat) (by omega) (by omega)
  rw [hs] at h3
  obtain ⟨i0, hi0, hz0, hz1, hz2⟩ := info_parts du_info
  rw [h3]
  simp [sizeOf, typeInfo, hi0, hz1, sliced, Result.andThen, cutD]
theorem RD.tail {w : World} {B : Nat} {A : Option Addr} {n c : Nat} {x : Du} {r : List Du} (h : RD w B A n c (x :: r)) : RD w B (cutD A c 1) (n - 1) (c - 1) r := by
  have h1 := h.1
  have h2 := h.2.2.2.1
  rw [List.length_cons] at h1
  refine ⟨by omega, fun y hy => h.2.1 y (List.mem_cons_of_mem _ hy), ⟨by rw [cellsD_len]; omega, by omega, fun hn => ?_⟩⟩
  obtain ⟨b, off, rfl, hb, hc⟩ := h.2.2.2.2 (by omega)
  unfold cutD
  rw [if_neg (by omega)]
  refine ⟨b, off + 2, by simp only [Option.map_some, Addr.add]; split <;> simp_all, hb, fun j u hj => ?_⟩
  have := hc (2 + j) u (by
    rw [show cellsD (x :: r) = x.cells ++ cellsD r from List.flatMap_cons, List.getElem?_append_right (by simp [Du.cells])]
    rw [show 2 + j - x.cells.length = j by simp [Du.cells]]
    exact hj)
  rw [← Nat.add_assoc] at this
  exact this
theorem RD.head {w : World} {B : Nat} {A : Option Addr} {n c : Nat} {x : Du} {r : List Du} (h : RD w B A n c (x :: r)) : ∃ b off, A = some ⟨b, off, none⟩ ∧ b < B ∧ 0 < n ∧ n ≤ c ∧ w.cell? ⟨b, off, none⟩ = some (.int .i64 x.t) ∧ w.cell? ⟨b, off + 1, none⟩ = some (.int .u64 (x.k : Int)) := by
  have h1 := h.1
  rw [List.length_cons] at h1
  obtain ⟨b, off, e, hb, hc⟩ := h.getD (by omega)
  obtain ⟨c0, c1⟩ := hc 0 (by omega)
  refine ⟨b, off, e, hb, by omega, h.2.2.2.1, c0, ?_⟩
  rw [show off + 0 * 2 + 1 = off + 1 by omega] at c1
  exact c1
/-! ### The region that drops and appends -/
def stF (w0 : World) (G ga : Nat) (kd : Int) (kk : Nat) (nn : Int) (L M : List Du) (S : Nat → Prop) (v : Value) (B : Nat) : Frame := belF (fun W => Pm w0 G ga kd kk nn L M S v W ∧ B ≤ W.heap.size) (fun a b h hb => ⟨h.1.on hb, Nat.le_trans h.2 hb.size⟩)
section
variable {w0 W : World} {G ga B : Nat} {kd nn : Int} {kk : Nat} {L M : List Du} {S : Nat → Prop} {v : Value}
def stD (w0 : World) (G ga : Nat) (kd : Int) (kk : Nat) (nn : Int) (L M : List Du) (S : Nat → Prop) (v : Value) (B : Nat) : ClF (stF w0 G ga kd kk nn L M S v B) := .pred (fun u W => OwnD W B u (dropK M kk)) (fun u a b _ hf _ h => h.on hf)
def stL (w0 : World) (G ga : Nat) (kd : Int) (kk : Nat) (nn : Int) (L M : List Du) (S : Nat → Prop) (v : Value) (B : Nat) : ClF (stF w0 G ga kd kk nn L M S v B) := .pred (fun u W => ∃ g, u = .slice (some ⟨g, 0, none⟩) 1 1 ∧ RD W W.heap.size (some ⟨g, 0, none⟩) 1 1 [⟨nn, kk⟩]) (fun u a b _ hf _ h => by
  obtain ⟨g, e, hr⟩ := h
  exact ⟨g, e, hr.on hf⟩)
theorem stD_of {c : ClF (stF w0 G ga kd kk nn L M S v B)} {u : Value} (h : c.holds u W) (e : c = stD w0 G ga kd kk nn L M S v B) : OwnD W B u (dropK M kk) := by subst e; exact h
theorem stL_of {c : ClF (stF w0 G ga kd kk nn L M S v B)} {u : Value} (h : c.holds u W) (e : c = stL w0 G ga kd kk nn L M S v B) : ∃ g, u = .slice (some ⟨g, 0, none⟩) 1 1 ∧ RD W W.heap.size (some ⟨g, 0, none⟩) 1 1 [⟨nn, kk⟩] := by subst e; exact h
end
/-! ### The region that drops the one that was due -/
def duF (w0 : World) (G ga : Nat) (kd : Int) (kk : Nat) (nn : Int) (L M : List Du) (S : Nat → Prop) (v : Value) (B gd : Nat) (x : Du) : Frame := belF (fun W => Pm w0 G ga kd kk nn L M S v W ∧ B ≤ W.heap.size ∧ Blk W gd 35 #[.int .i64 x.t, .int .u64 (x.k : Int)]) (fun a b h hb => ⟨h.1.on hb, Nat.le_trans h.2.1 hb.size, (hb.block gd h.2.2.lt).trans h.2.2⟩)
section
variable {w0 W : World} {G ga B gd : Nat} {kd nn : Int} {kk : Nat} {L M : List Du} {S : Nat → Prop} {v : Value} {x : Du}
def duD (w0 : World) (G ga : Nat) (kd : Int) (kk : Nat) (nn : Int) (L M : List Du) (S : Nat → Prop) (v : Value) (B gd : Nat) (x : Du) : ClF (duF w0 G ga kd kk nn L M S v B gd x) := .pred (fun u W => OwnD W B u (dropK M x.k)) (fun u a b _ hf _ h => h.on hf)
theorem duD_of {c : ClF (duF w0 G ga kd kk nn L M S v B gd x)} {u : Value} (h : c.holds u W) (e : c = duD w0 G ga kd kk nn L M S v B gd x) : OwnD W B u (dropK M x.k) := by subst e; exact h
end
end Go.Proofs.Ytkhhaokelhmikaa
