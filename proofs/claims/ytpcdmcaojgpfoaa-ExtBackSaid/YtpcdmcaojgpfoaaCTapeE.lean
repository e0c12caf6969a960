/- Contract: (*limelightkeep.Tape).Elems. -/
import Derived.Test.YtpcdmcaojgpfoaaCTapeB
import Derived.Deep.CutRange
import Derived.OneCell
namespace Go.Proofs.Ytpcdmcaojgpfoaa
open Go.RowKit
set_option linter.unusedVariables false
set_option linter.unusedSimpArgs false
set_option maxRecDepth 20000

theorem Els.moves {w w' : World} {g : Nat} {E : List El} (h : Els w w.heap.size E) (hT : TapeAt w g) (hm : Moves g w w') : Els w' w'.heap.size E := fun e he => ⟨(h e he).1, (h e he).2.moves hT hm⟩
/-- The numbers that a tape's elements have. -/
def ElIn (two : Bool) (e : El) : Prop := 1 ≤ e.id ∧ e.id ≤ 255 ∧ e.d.length ≤ 20 ∧ (two = false → e.id ≤ 14 ∧ 1 ≤ e.d.length ∧ e.d.length ≤ 10)
def ElemsOut (g : Nat) (two : Bool) (w : World) (e : Ending) (w' : World) : Prop :=
  ∃ A c E, e = .returned (.slice A E.length c) ∧ E.length ≤ 3 ∧ (∀ x ∈ E, ElIn two x) ∧ RE w' w'.heap.size A E.length c E ∧ Moves g w w'
theorem OwnE.alloc {w : World} {base : Nat} {v : Value} {E : List El} (h : OwnE w base v E) (o : Obj) : OwnE (w.alloc o) base v E := World.ownsRow.alloc h o
/-- Behind the element's bytes: all that was known of the row of elements. -/
theorem els_step {w wr w5 w6 : World} {g L : Nat} {u v6 : Value} {E : List El} {b : UInt8} {l : List UInt8} (hg : g < w.heap.size) (hwr : w.heap.size ≤ wr.heap.size) (hL : wr.heap.size ≤ L)
    (hvb : ∀ b, Value.ownBlock u = some b → w.heap.size ≤ b ∧ b < wr.heap.size) (hLow : ∀ x ∈ E, ∀ ad, x.A = some ad → ad.block < wr.heap.size) (hlit5 : Own8 w5 wr.heap.size (.slice (some ⟨L, 0, none⟩) 1 1) [b])
    (hs5 : wr.heap.size ≤ w5.heap.size) (hEls5 : Els w5 w5.heap.size E) (hor5 : OwnE w5 w.heap.size u E) (hm5 : Moves g w w5) (ha6 : App8 w5 wr.heap.size (.slice (some ⟨L, 0, none⟩) 1 1) ([b] ++ l) v6 w6) :
    ∃ A6 c6, v6 = .slice A6 (b :: l).length c6 ∧ R8 w6 w6.heap.size A6 (b :: l).length c6 (b :: l) ∧ Els w6 w6.heap.size E ∧ OwnE w6 w.heap.size u E ∧ Moves g w w6 ∧ (∀ ad, A6 = some ad → wr.heap.size ≤ ad.block ∧ ad.block < w6.heap.size) ∧ wr.heap.size ≤ w6.heap.size := by
  have hb6 : Below wr.heap.size w5 w6 := ha6.below (Below.refl wr.heap.size w5) hs5 hlit5 (Nat.le_refl _)
  have hEls6 : Els w6 w6.heap.size E := fun e he => ⟨(hEls5 e he).1, (hEls5 e he).2.grown ha6.2.1 fun ad hA e' => by
    have h1 := hLow e he ad hA
    have h2 : L = ad.block := Option.some.inj e'
    omega⟩
  have hor6 : OwnE w6 w.heap.size u E := World.ownsRow.kept hor5 ha6.2.1 (by
    cases hvo : Value.ownBlock u with
    | none => exact .inl rfl
    | some b =>
      refine .inr fun e' => ?_
      have h1 := (hvb b hvo).2
      have h2 : b = L := Option.some.inj e'
      omega)
  have hm6 := hm5.and hg (hb6.mono hwr)
  obtain ⟨A6, c6, rfl, hR6⟩ := Own8.r8 ha6.1
  exact ⟨A6, c6, rfl, hR6, hEls6, hor6, hm6, own_block ha6.1, by have := hb6.size; omega⟩
/-- An element lies in block L, behind all that the round began with. -/
structure Mid (g : Nat) (w wr W : World) (u : Value) (E : List El) (L : Nat) (id : Int) (A : Option Addr) (c : Nat) (d : List UInt8) : Prop where
  blk : W.heap[L]? = some (.cells #[.int .i64 id, .slice A d.length c] 51 (0, 0))
  els : Els W W.heap.size E
  own : OwnE W w.heap.size u E
  r8 : R8 W W.heap.size A d.length c d
  moves : Moves g w W
  low : wr.heap.size ≤ L
  fresh : ∀ ad, A = some ad → wr.heap.size ≤ ad.block ∧ ad.block < W.heap.size
theorem Mid.step {g : Nat} {w wr W W' : World} {u : Value} {E : List El} {L : Nat} {id : Int} {A : Option Addr} {c : Nat} {d : List UInt8} (h : Mid g w wr W u E L id A c d) (hg : g < w.heap.size) (hgr : g < wr.heap.size) (hm : Moves g W W') : Mid g w wr W' u E L id A c d :=
  ⟨(hm.other L (Array.getElem?_eq_some_iff.1 h.blk).1 (by have := h.low; omega)).trans h.blk, h.els.moves h.moves.tape hm, own_moves h.own hg hm, h.r8.moves h.moves.tape hm, h.moves.trans hm, h.low, fun ad hA => by
    have h1 := h.fresh ad hA
    have h2 := hm.below.size
    omega⟩
theorem Mid.cell {g : Nat} {w wr W : World} {u : Value} {E : List El} {L : Nat} {id : Int} {A : Option Addr} {c : Nat} {d : List UInt8} (h : Mid g w wr W u E L id A c d) : W.cell? ⟨L, 0, none⟩ = some (.int .i64 id) ∧ W.cell? ⟨L, 1, none⟩ = some (.slice A d.length c) := by
  simp [World.cell?, h.blk]
theorem Mid.soft {g : Nat} {w wr W : World} {u : Value} {E : List El} {L : Nat} {id : Int} {A : Option Addr} {c : Nat} {d : List UInt8} (h : Mid g w wr W u E L id A c d) : W.frozen? ⟨L, 0, none⟩ = false ∧ W.frozen? ⟨L, 1, none⟩ = false := by
  simp [World.frozen?, h.blk]
theorem R8.setCell {w : World} {n c L o : Nat} {A : Option Addr} {l : List UInt8} (h : R8 w w.heap.size A n c l) (hL : ∀ ad, A = some ad → ad.block ≠ L) (u : Value) : R8 (w.setCell ⟨L, o, none⟩ u) (w.setCell ⟨L, o, none⟩ u).heap.size A n c l :=
  ⟨h.1, h.2.1, fun hn => by
    obtain ⟨b, off, e, hlt, hc⟩ := h.2.2 hn
    have hs : w.heap.size ≤ (w.setCell ⟨L, o, none⟩ u).heap.size := ((Below.refl 0 w).setCell (p := ⟨L, o, none⟩) (Nat.zero_le _) u).size
    refine ⟨b, off, e, by omega, fun i hi => ?_⟩
    rw [← hc i hi]
    exact World.cell?_of_block (Below.heap_setCell _ _ _ b (show b ≠ L from hL _ e))⟩
theorem Mid.set {g : Nat} {w wr W : World} {u : Value} {E : List El} {L : Nat} {id id' : Int} {A A' : Option Addr} {c c' : Nat} {d d' : List UInt8} (h : Mid g w wr W u E L id A c d) (hg : g < w.heap.size) (hwr : w.heap.size ≤ wr.heap.size)
    (hvb : ∀ b, Value.ownBlock u = some b → w.heap.size ≤ b ∧ b < wr.heap.size) (hLow : ∀ x ∈ E, ∀ ad, x.A = some ad → ad.block < wr.heap.size)
    (hr : R8 W W.heap.size A' d'.length c' d') (hf : ∀ ad, A' = some ad → wr.heap.size ≤ ad.block ∧ ad.block < W.heap.size ∧ ad.block ≠ L) :
    Mid g w wr ((W.setCell ⟨L, 0, none⟩ (.int .i64 id')).setCell ⟨L, 1, none⟩ (.slice A' d'.length c')) u E L id' A' c' d' := by
  have hlw := h.low
  have hb : Below w.heap.size W ((W.setCell ⟨L, 0, none⟩ (.int .i64 id')).setCell ⟨L, 1, none⟩ (.slice A' d'.length c')) := ((Below.refl _ W).setCell (p := ⟨L, 0, none⟩) (by simp only; omega) _).setCell (p := ⟨L, 1, none⟩) (by simp only; omega) _
  have hE : ∀ x ∈ E, ∀ ad, x.A = some ad → ad.block ≠ L := fun x hx ad hA e => by
    have := hLow x hx ad hA
    omega
  have hv : Value.ownBlock u ≠ some L := fun e => by
    have := (hvb _ e).2
    omega
  refine ⟨?_, fun x hx => ⟨(h.els x hx).1, ((h.els x hx).2.setCell (hE x hx) _).setCell (hE x hx) _⟩, ?_, (hr.setCell (fun ad hA => (hf ad hA).2.2) _).setCell (fun ad hA => (hf ad hA).2.2) _, h.moves.and hg hb, hlw, fun ad hA => ?_⟩
  · exact Blk.set_ (Blk.set_ (w := W) (g := L) h.blk 0 (.int .i64 id')) 1 (.slice A' d'.length c')
  · exact ownsRow_setCell_other (ownsRow_setCell_other h.own (a := ⟨L, 0, none⟩) hv _) (a := ⟨L, 1, none⟩) hv _
  · have h1 := hf ad hA
    have h2 := hb.size
    omega
theorem Mid.fin {g : Nat} {two : Bool} {w wr W w7 : World} {u v7 : Value} {E : List El} {L : Nat} {id : Int} {A : Option Addr} {c : Nat} {d : List UInt8} (h : Mid g w wr W u E L id A c d) (hg : g < w.heap.size)
    (hvb : ∀ b, Value.ownBlock u = some b → w.heap.size ≤ b ∧ b < wr.heap.size) (hLow : ∀ x ∈ E, ∀ ad, x.A = some ad → ad.block < wr.heap.size) (hFar : Far u E) (hIn : ∀ x ∈ E, ElIn two x) (hx : ElIn two ⟨id, A, c, d⟩)
    (ha7 : AppG (W.alloc (.cells #[.int .i64 id, .slice A d.length c] 51)) w.heap.size 51 2 u (E.length + 1) (cellsE E ++ cellsE [⟨id, A, c, d⟩]) v7 w7) :
    OwnE w7 w.heap.size v7 (E ++ [⟨id, A, c, d⟩]) ∧ Els w7 w7.heap.size (E ++ [⟨id, A, c, d⟩]) ∧ Far v7 (E ++ [⟨id, A, c, d⟩]) ∧ (∀ x ∈ E ++ [⟨id, A, c, d⟩], ElIn two x) ∧ (∀ x ∈ E ++ [(⟨id, A, c, d⟩ : El)], ∀ ad, x.A = some ad → ad.block < w7.heap.size) ∧ Moves g w w7 := by
  have hsW : w.heap.size ≤ W.heap.size := h.moves.below.size
  have hLW : L < W.heap.size := (Array.getElem?_eq_some_iff.1 h.blk).1
  have hlw := h.low
  have hfx : Far u [⟨id, A, c, d⟩] := fun e he ad hA hv => by
    rw [List.mem_singleton.1 he] at hA
    have h1 := (hvb _ hv).2
    have h2 := (h.fresh _ hA).1
    omega
  have hlo : ∀ e ∈ E ++ [(⟨id, A, c, d⟩ : El)], ∀ ad, e.A = some ad → ad.block < W.heap.size := fun e he ad hA => by
    rcases List.mem_append.1 he with he | he
    · have h1 := hLow e he ad hA
      omega
    · rw [List.mem_singleton.1 he] at hA
      exact (h.fresh _ hA).2
  have hal := (Below.refl W.heap.size W).alloc (Nat.le_refl _) (.cells #[.int .i64 id, .slice A d.length c] 51)
  obtain ⟨p1, p2, p3⟩ := OwnE.app (h.els.on hal) hFar ⟨by show I64 id; have := hx.1; have := hx.2.1; simp only at *; unfold I64; omega, h.r8.on hal⟩ hfx (fun e he ad hA => by have := hlo e he ad hA; simp; omega) ha7
  have hb7 : Below w.heap.size W w7 := AppG.below ha7 ((Below.refl w.heap.size W).alloc hsW _) (by simp; omega) (h.own.alloc _) (Nat.le_refl _)
  refine ⟨p1, p2, p3, fun e he => ?_, fun e he ad hA => ?_, h.moves.and hg hb7⟩
  · rcases List.mem_append.1 he with he | he
    · exact hIn e he
    · rw [List.mem_singleton.1 he]
      exact hx
  · have h1 := hlo e he ad hA
    have h2 := hb7.size
    omega
set_option maxHeartbeats 2000000 in
theorem tape_elems (g : Nat) (two : Bool) (w : World) (hT : TapeAt w g) :
    Calls Try.prog 19 #[.pointer (some ⟨g, 0, none⟩), .bool two] w (ElemsOut g two w) := by
  have hg := hT.lt
  go_enter Try.func19, Try.ntmps19
  go_wp2_with fail
  refine (next_any g 4 _ hT (by unfold I64; omega)).mono ?_
  rintro e w1 ⟨r, rfl, hr0, hr1, hm1⟩
  go_wp2_with fail
  go_loopw [5, 6, 7] (fun v i _ wr => ∃ (k : Nat) (E : List El), i = .int .i64 (k : Int) ∧ E.length + k ≤ 3 ∧ OwnE wr w.heap.size v E ∧ Els wr wr.heap.size E ∧ Far v E ∧ (∀ x ∈ E, ElIn two x) ∧ (∀ x ∈ E, ∀ ad, x.A = some ad → ad.block < wr.heap.size) ∧ Moves g w wr) (fun _ i _ _ => (intOf i).toNat)
  case atStart =>
    exact ⟨r.toNat, [], by congr 1; omega, by simp; omega, OwnE.nil _ _, by simp [Els], by simp [Far], by simp, by simp, hm1⟩
  case round =>
    obtain ⟨k, E, rfl, hl, hor, hEls, hFar, hIn, hLow, hmr⟩ := hrel
    have hvb : ∀ b, Value.ownBlock u5 = some b → w.heap.size ≤ b ∧ b < wr.heap.size := fun b hb => World.ownsRow.lt hor b hb
    by_cases hk : 0 < k
    · have hk' : (0 : Int) < (k : Int) := by omega
      go_wp2_with fail
      refine (next_any g 14 _ hmr.tape (by unfold I64; omega)).mono ?_
      rintro e w2 ⟨x, rfl, hx0, hx1, hm2⟩
      go_wp2_with fail
      refine (next_any g 256 _ hm2.tape (by unfold I64; omega)).mono ?_
      rintro e w3 ⟨y, rfl, hy0, hy1, hm3⟩
      have hy8 : y = (((UInt8.ofNat y.toNat).toNat : Nat) : Int) := by simp; omega
      have hmr3 := (hmr.trans hm2).trans hm3
      have hr3 := hm2.trans hm3
      have hszr : wr.heap.size ≤ w3.heap.size := hr3.below.size
      have hgr : g < wr.heap.size := hmr.tape.lt
      have hEls3 := hEls.moves hmr.tape hr3
      have hor3 : OwnE w3 w.heap.size _ E := own_moves hor hg hr3
      have hlit := Own8.lit w3 wr.heap.size (UInt8.ofNat y.toNat) y hy8 hszr
      have hal : Below w3.heap.size w3 (w3.alloc (.cells #[.int .u8 y] 5)) := (Below.refl _ w3).alloc (Nat.le_refl _) _
      have hT4 := hm3.tape.on hal
      have hEls4 := hEls3.on hal
      have hor4 : OwnE _ w.heap.size _ E := World.ownsRow.alloc hor3 (.cells #[.int .u8 y] 5)
      have hm4 := hmr3.and hg (hal.mono (by have := hmr.below.size; omega))
      have hs4 : wr.heap.size ≤ (w3.alloc (.cells #[.int .u8 y] 5)).heap.size := by have := hal.size; omega
      clear hm2 hm3 hal hor3 hEls3 hor hEls hy8
      go_wp2_with fail
      refine (tape_bytes g 9 _ hT4 (by omega)).mono ?_
      rintro e w5 ⟨A, c, l, rfl, hl9, hR5, hm5, hA5⟩
      have hlit5 : Own8 w5 wr.heap.size _ [UInt8.ofNat y.toNat] := own_moves hlit hgr hm5
      have hEls5 := hEls4.moves hT4 hm5
      have hor5 : OwnE w5 w.heap.size _ E := own_moves hor4 hg hm5
      have hm5' := hm4.trans hm5
      have hs5 : wr.heap.size ≤ w5.heap.size := Nat.le_trans hs4 hm5.below.size
      have hlb : ([UInt8.ofNat y.toNat] : List UInt8).length + l.length ≤ 140737488355328 := by simp; omega
      clear hlit hEls4 hor4 hm4 hm5 hs4 hT4
      cases two
      · go_upto_region 8 with (at_builtin; ((with_reducible refine wpList_append8 rfl (.tmp 20) (.tmp 22) rfl rfl wr.heap.size _ [UInt8.ofNat y.toNat] rfl (by with_unfolding_all exact hlit5) w5.heap.size A l.length c l rfl hR5 hlb hs5 ?_); intro v6 w6 ha6; obtain ⟨A6, c6, rfl, hR6, hEls6, hor6, hm6, hNew, hs6⟩ := els_step hg (by have := hmr.below.size; omega) hszr hvb hLow hlit5 hs5 hEls5 hor5 hm5' ha6))
        have hal : Below w6.heap.size w6 (w6.alloc (.cells #[.int .i64 (1 + x), .slice A6 (l.length + 1) c6] 51)) := (Below.refl _ w6).alloc (Nat.le_refl _) _
        have hM : Mid g w wr (w6.alloc (.cells #[.int .i64 (1 + x), .slice A6 (l.length + 1) c6] 51)) u5 E w6.heap.size (1 + x) A6 c6 (UInt8.ofNat y.toNat :: l) :=
          ⟨Blk.new _ _ _, hEls6.on hal, hor6.alloc _, hR6.on hal, hm6.and hg (hal.mono (by have := hm6.below.size; omega)), hs6, fun ad hA => by have := hNew ad hA; simp; omega⟩
        clear hEls6 hR6 hor6 hm6 hal hNew
        revert hM
        generalize w6.alloc (.cells #[.int .i64 (1 + x), .slice A6 (l.length + 1) c6] 51) = W
        generalize w6.heap.size = L7
        intro hM
        obtain ⟨c0, c1⟩ := hM.cell
        go_wp2_with (at_builtin; ((with_reducible refine wpList_appendG rfl (.tmp 37) (.tmp 39) 44 44 51 rfl rfl _ 2 32 Try.underlying44 elem_info rfl (by decide) w.heap.size u5 E.length (cellsE E) (by with_unfolding_all rfl) (by with_unfolding_all exact OwnE.alloc hM.own _) _ 1 1 (cellsE [⟨1 + x, A6, c6, UInt8.ofNat y.toNat :: l⟩]) rfl rfl (by with_unfolding_all exact one_elem W ⟨1 + x, A6, c6, UInt8.ofNat y.toNat :: l⟩) (one_elem_cells _) (by simp only [maxLen]; omega) (by omega) (by have := hM.moves.below.size; simp; omega) ?_); intro v7 w7 ha7))
        obtain ⟨p1, p2, p3, p4, p5, p6⟩ := hM.fin (two := false) hg hvb hLow hFar hIn ⟨by simp only; omega, by simp only; omega, by simp; omega, fun _ => ⟨by simp only; omega, by simp, by simp; omega⟩⟩ ha7
        go_roundw
        case rel => exact ⟨k - 1, E ++ [⟨1 + x, A6, c6, UInt8.ofNat y.toNat :: l⟩], by congr 1; omega, by simp; omega, p1, p2, p3, p4, p5, p6⟩
        case measure => simp [intOf]; omega
      · go_upto_region 6 with (at_builtin; ((with_reducible refine wpList_append8 rfl (.tmp 20) (.tmp 22) rfl rfl wr.heap.size _ [UInt8.ofNat y.toNat] rfl (by with_unfolding_all exact hlit5) w5.heap.size A l.length c l rfl hR5 hlb hs5 ?_); intro v6 w6 ha6; obtain ⟨A6, c6, rfl, hR6, hEls6, hor6, hm6, hNew, hs6⟩ := els_step hg (by have := hmr.below.size; omega) hszr hvb hLow hlit5 hs5 hEls5 hor5 hm5' ha6))
        have hal : Below w6.heap.size w6 (w6.alloc (.cells #[.int .i64 (1 + x), .slice A6 (l.length + 1) c6] 51)) := (Below.refl _ w6).alloc (Nat.le_refl _) _
        have hM : Mid g w wr (w6.alloc (.cells #[.int .i64 (1 + x), .slice A6 (l.length + 1) c6] 51)) u5 E w6.heap.size (1 + x) A6 c6 (UInt8.ofNat y.toNat :: l) :=
          ⟨Blk.new _ _ _, hEls6.on hal, hor6.alloc _, hR6.on hal, hm6.and hg (hal.mono (by have := hm6.below.size; omega)), hs6, fun ad hA => by have := hNew ad hA; simp; omega⟩
        clear hEls6 hR6 hor6 hm6 hal hNew
        revert hM
        generalize w6.alloc (.cells #[.int .i64 (1 + x), .slice A6 (l.length + 1) c6] 51) = W
        generalize w6.heap.size = L7
        intro hM
        go_wp2_with fail
        refine (next_any g 3 _ hM.moves.tape (by unfold I64; omega)).mono ?_
        rintro e w8 ⟨z, rfl, hz0, hz1, hm8⟩
        have hM8 := hM.step hg hgr hm8
        clear hM hm8
        by_cases hz : z = 0
        · have hz' : (z == 0) = true := by simp [hz]
          clear hz
          go_wp2_with fail
          refine (next_any g 255 _ hM8.moves.tape (by unfold I64; omega)).mono ?_
          rintro e w9 ⟨i9, rfl, hi0, hi1, hm9⟩
          have hM9 := hM8.step hg hgr hm9
          clear hM8 hm9
          go_wp2_with fail
          refine (tape_bytes g 20 _ hM9.moves.tape (by omega)).mono ?_
          rintro e w10 ⟨A9, c9, l9, rfl, hl20, hR9, hm10, hA9⟩
          have hM10 := hM9.step hg hgr hm10
          obtain ⟨c0, c1⟩ := hM10.cell
          obtain ⟨f0, f1⟩ := hM10.soft
          have hL9 : L7 < w9.heap.size := (Array.getElem?_eq_some_iff.1 hM9.blk).1
          have hL0 := hM9.low
          have hM11 := hM10.set (id' := 1 + i9) hg (by have := hmr.below.size; omega) hvb hLow hR9 (fun ad hA => by have := hA9 ad hA; omega)
          clear hM9 hM10 hm10 hR9 hA9
          go_upto_region 8 with (fail)
          clear c0 c1 f0 f1
          revert hM11
          generalize (w10.setCell ⟨L7, 0, none⟩ (.int .i64 (1 + i9))).setCell ⟨L7, 1, none⟩ (.slice A9 l9.length c9) = W2
          intro hM11
          obtain ⟨c0, c1⟩ := hM11.cell
          go_wp2_with (at_builtin; ((with_reducible refine wpList_appendG rfl (.tmp 37) (.tmp 39) 44 44 51 rfl rfl _ 2 32 Try.underlying44 elem_info rfl (by decide) w.heap.size u5 E.length (cellsE E) (by with_unfolding_all rfl) (by with_unfolding_all exact OwnE.alloc hM11.own _) _ 1 1 (cellsE [⟨1 + i9, A9, c9, l9⟩]) rfl rfl (by with_unfolding_all exact one_elem W2 ⟨1 + i9, A9, c9, l9⟩) (one_elem_cells _) (by simp only [maxLen]; omega) (by omega) (by have := hM11.moves.below.size; simp; omega) ?_); intro v7 w7 ha7))
          obtain ⟨p1, p2, p3, p4, p5, p6⟩ := hM11.fin (two := true) hg hvb hLow hFar hIn ⟨by simp only; omega, by simp only; omega, by simp only; omega, fun h => by cases h⟩ ha7
          go_roundw
          case rel => exact ⟨k - 1, E ++ [⟨1 + i9, A9, c9, l9⟩], by congr 1; omega, by simp; omega, p1, p2, p3, p4, p5, p6⟩
          case measure => simp [intOf]; omega
        · have hz' : (z == 0) = false := by simp [hz]
          obtain ⟨c0, c1⟩ := hM8.cell
          go_wp2_with (at_builtin; ((with_reducible refine wpList_appendG rfl (.tmp 37) (.tmp 39) 44 44 51 rfl rfl _ 2 32 Try.underlying44 elem_info rfl (by decide) w.heap.size u5 E.length (cellsE E) (by with_unfolding_all rfl) (by with_unfolding_all exact OwnE.alloc hM8.own _) _ 1 1 (cellsE [⟨1 + x, A6, c6, UInt8.ofNat y.toNat :: l⟩]) rfl rfl (by with_unfolding_all exact one_elem w8 ⟨1 + x, A6, c6, UInt8.ofNat y.toNat :: l⟩) (one_elem_cells _) (by simp only [maxLen]; omega) (by omega) (by have := hM8.moves.below.size; simp; omega) ?_); intro v7 w7 ha7))
          obtain ⟨p1, p2, p3, p4, p5, p6⟩ := hM8.fin (two := true) hg hvb hLow hFar hIn ⟨by simp only; omega, by simp only; omega, by simp; omega, fun h => by cases h⟩ ha7
          go_roundw
          case rel => exact ⟨k - 1, E ++ [⟨1 + x, A6, c6, UInt8.ofNat y.toNat :: l⟩], by congr 1; omega, by simp; omega, p1, p2, p3, p4, p5, p6⟩
          case measure => simp [intOf]; omega
    · have hk' : ¬ (0 : Int) < (k : Int) := by omega
      obtain ⟨A, c, rfl, hR⟩ := hor.re hEls
      go_wp2_with fail
      go_ret
      exact ⟨A, c, E, rfl, by omega, hIn, hR, hmr⟩
end Go.Proofs.Ytpcdmcaojgpfoaa
