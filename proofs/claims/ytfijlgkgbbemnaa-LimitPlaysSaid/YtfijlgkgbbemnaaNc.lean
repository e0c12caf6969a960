/- slices.Insert at the project's rows: what its copies and its append leave. slices.Insert at the project's rows. slices.Insert at the project's rows, ahead of the end, where there is room. slices.Insert at the project's rows, ahead of the end, where there is no room; all of it. -/
import Derived.Test.YtfijlgkgbbemnaaNb
import Derived.Lib.AppendZerosOnto
import Derived.Lib.Overlaps
import Derived.Deep.RegionLaw
import Derived.Shelf.RegionOpenPlain
namespace Go.Proofs.Ytfijlgkgbbemnaa
open Go.RowKit
set_option linter.unusedVariables false
set_option linter.unusedSimpArgs false
set_option maxRecDepth 20000

abbrev rowT : TypeId := 59
abbrev enT : TypeId := 64
theorem en_size : (Try.prog.info? enT).map (·.size) = some 4 := by kernel_rfl
def insE (E : Ents) (i : Nat) (x : Ent) : Ents := List.take i E ++ x :: List.drop i E
theorem insE_len {E : Ents} {i : Nat} (h : i ≤ E.length) (x : Ent) : (insE E i x).length = E.length + 1 := by unfold insE; simp; omega
theorem cells_ins (E : Ents) (i : Nat) (x : Ent) : cellsEn (insE E i x) = cellsEn (List.take i E) ++ (x.cells ++ cellsEn (List.drop i E)) := by
  unfold insE
  rw [cellsEn_app]
  rfl
theorem ins_take {X Y Z R : List Value} {m : Nat} (h : X.length + (Y.length + Z.length) = m) : (X ++ (Y ++ (Z ++ R))).take m = X ++ (Y ++ Z) := by
  rw [← List.append_assoc Y Z R, ← List.append_assoc X (Y ++ Z) R, List.take_left' (by simp; omega)]
/-- A row in which so many cells were written over, from cell o on. -/
def over (L cs : List Value) (o : Nat) : List Value := L.take o ++ cs ++ L.drop (o + cs.length)
theorem over_len {L cs : List Value} {o : Nat} (h : o + cs.length ≤ L.length) : (over L cs o).length = L.length := by unfold over; simp; omega
/-- a copy of m rows onto a block, at row q. -/
theorem run_copyE {w : World} {g q dLen sLen m : Nat} {a : Addr} {L : List Value} {cs : List Value} (hg : Blk w g enT L.toArray) (hm : m = Nat.min sLen dLen) (hn : cs.length = m * 4)
    (hsrc : ∀ j v, cs[j]? = some v → w.cell? (a.add j) = some v) (hfit : q * 4 + cs.length ≤ L.length) (h1 : ∀ v ∈ cs, v.oneCell' = true) :
    ∃ W, (∀ ty dCap sCap, (Builtin.copy_ #[rowT, rowT] ty #[.slice (some ⟨g, q * 4, none⟩) dLen dCap, .slice (some a) sLen sCap]).run Try.prog w = .ok (goInt m) W) ∧ Blk W g enT (over L cs (q * 4)).toArray ∧ Only g w W := by
  have := fun ty dCap sCap => run_copyK (P := Try.prog) w rowT rowT ty enT g (q * 4) dLen dCap a sLen sCap L.toArray enT cs 4 m Try.underlying59 en_size hg hm hn hsrc (by simpa using hfit) h1
  refine ⟨_, this, ?_, ⟨rfl, rfl, rfl, by simp [World.setRow], fun k _ hn => setRow_other w g k _ hn⟩⟩
  have h2 := setRow_heap w g L.toArray (over L cs (q * 4)).toArray enT (0, 0) hg
  simpa [over, Blk] using h2
/-- Two copies in place. -/
theorem ins_room {L : List Value} {E : Ents} {i c : Nat} (x : Ent) (hi : i ≤ E.length) (hL : L.length = c * 4) (hc : E.length + 1 ≤ c) (htk : L.take (E.length * 4) = cellsEn E) :
    ((over (over L (cellsEn (List.drop i E)) ((i + 1) * 4)) x.cells (i * 4)).take ((E.length + 1) * 4)) = cellsEn (insE E i x) := by
  have hd : (cellsEn (List.drop i E)).length = (E.length - i) * 4 := by rw [cellsEn_len, List.length_drop]
  have ht : (cellsEn (List.take i E)).length = i * 4 := by rw [cellsEn_len, List.length_take]; congr 1; omega
  have hx : x.cells.length = 4 := rfl
  have e1 : L.take (i * 4) = cellsEn (List.take i E) := by rw [← cellsEn_take, ← htk, List.take_take, Nat.min_eq_left (Nat.mul_le_mul_right 4 hi)]
  have e2 : (over L (cellsEn (List.drop i E)) ((i + 1) * 4)).take (i * 4) = cellsEn (List.take i E) := by
    unfold over
    rw [List.append_assoc, List.take_append_of_le_length (by rw [List.length_take]; omega), List.take_take, Nat.min_eq_left (by omega), e1]
  have e3 : (over L (cellsEn (List.drop i E)) ((i + 1) * 4)).drop (i * 4 + 4) = cellsEn (List.drop i E) ++ L.drop ((i + 1) * 4 + (cellsEn (List.drop i E)).length) := by
    unfold over
    rw [List.append_assoc, List.drop_left' (by rw [List.length_take]; omega)]
  rw [cells_ins]
  show ((over L (cellsEn (List.drop i E)) ((i + 1) * 4)).take (i * 4) ++ x.cells ++ (over L (cellsEn (List.drop i E)) ((i + 1) * 4)).drop (i * 4 + x.cells.length)).take ((E.length + 1) * 4) = _
  rw [hx, e2, e3, List.append_assoc, ins_take (by rw [ht, hx, hd]; omega)]
/-- A new row, the one's cells, the rest's. -/
theorem ins_new {E : Ents} {i : Nat} {Z : List Value} (x : Ent) (hi : i ≤ E.length) (hZ : (E.length + 1 - i) * 4 ≤ Z.length) :
    ((over (over (cellsEn (List.take i E) ++ Z) x.cells (i * 4)) (cellsEn (List.drop i E)) ((i + 1) * 4)).take ((E.length + 1) * 4)) = cellsEn (insE E i x) := by
  have hd : (cellsEn (List.drop i E)).length = (E.length - i) * 4 := by rw [cellsEn_len, List.length_drop]
  have ht : (cellsEn (List.take i E)).length = i * 4 := by rw [cellsEn_len, List.length_take]; congr 1; omega
  have hx : x.cells.length = 4 := rfl
  have e1 : over (cellsEn (List.take i E) ++ Z) x.cells (i * 4) = (cellsEn (List.take i E) ++ x.cells) ++ Z.drop 4 := by
    unfold over
    rw [hx, List.take_left' ht, ← ht, List.drop_append, List.drop_eq_nil_of_le (by omega), List.nil_append]
    congr 2
    omega
  have e4 : ((cellsEn (List.take i E) ++ x.cells) ++ Z.drop 4).take ((i + 1) * 4) = cellsEn (List.take i E) ++ x.cells := List.take_left' (by rw [List.length_append, ht, hx]; omega)
  rw [cells_ins, e1]
  unfold over
  rw [e4, List.append_assoc, List.append_assoc, ins_take (by rw [ht, hx, hd]; omega)]
end Go.Proofs.Ytfijlgkgbbemnaa
namespace Go.Proofs.Ytfijlgkgbbemnaa
open Go.RowKit
set_option linter.unusedVariables false
set_option linter.unusedSimpArgs false
set_option maxRecDepth 20000

def InsOut (A : Option Addr) (n c : Nat) (E : Ents) (i : Nat) (x : Ent) (w : World) (e : Ending) (w' : World) : Prop :=
  ∃ v', e = .returned v' ∧ OwnEn w' 0 v' (insE E i x) ∧ OnlyS (fun k => (Value.slice A n c).ownBlock = some k) w w' ∧ (v'.ownBlock = (Value.slice A n c).ownBlock ∨ v'.ownBlock = some w.heap.size)
/-- The literal of one. -/
@[reducible] def litE (vb : Nat) : Value := .slice (some ⟨vb, 0, none⟩) 1 1
theorem lit_rx {w : World} {vb : Nat} {x : Ent} (h : Blk w vb enT x.cells.toArray) : RX w w.heap.size (some ⟨vb, 0, none⟩) 1 1 4 (cellsEn [x]) := by
  refine ⟨rfl, Nat.le_refl _, fun _ => ⟨vb, 0, rfl, h.lt, fun j v hj => ?_⟩⟩
  rw [Nat.zero_add, h.cell j, ← hj]
  simp [cellsEn, Ent.cells]
set_option maxHeartbeats 2000000 in
theorem lp_ins_end {w : World} {A : Option Addr} {n c vb : Nat} {E : Ents} {x : Ent} (h : OwnEn w 0 (.slice A n c) E) (hE : n = E.length) (hn : n ≤ 1000) (hb : Blk w vb enT x.cells.toArray) :
    Calls Try.prog 30 #[.slice A n c, .int .i64 (n : Int), litE vb] w (InsOut A n c E n x w) := by
  have HO : Hid (w.ownsRow 0 enT 4 (.slice A n c) E.length (cellsEn E)) := Lib.hid h
  have HL := Lib.hid (lit_rx hb)
  have HN := Lib.hid hE
  have HI : Hid (insE E n x = E ++ [x]) := Lib.hid (by unfold insE; rw [hE, List.take_length, List.drop_length])
  obtain ⟨A', c', e, hnc, hrx, _⟩ := h.val
  injection e with e1 e2 e3
  subst e1 e3
  rw [← hE] at hnc hrx
  obtain ⟨i0, hi0, hz0, hz1, hz2⟩ := info_parts en_info
  obtain ⟨A2, c2, hcut, _⟩ := cut_rest rowT enT Try.underlying59 i0 hi0 4 hz1 hrx (Nat.le_refl n)
  clear hrx hi0 hz0 hz1 hz2
  clear h hb hE e2
  go_enter Try.func30, Try.ntmps30
  go_upto_region 7 with (fail)
  go_wp2_with (at_builtin; go_loud (with_reducible refine wpList_appendX rfl (.tmp 23) (.tmp 24) rowT rowT enT rfl rfl zE.val 4 32 Try.underlying59 en_info rfl (by omega) 0 (.slice A n c) E.length (cellsEn E) (by with_unfolding_all rfl) HO.out _ (some ⟨vb, 0, none⟩) 1 1 (cellsEn [x]) (by with_unfolding_all rfl) HL.out (cellsEn_one [x]) (by simp only [maxLen]; have := HN.out; omega) (by have := HN.out; omega) (Nat.zero_le _) ?_); intro v9 w9 ha9)
  have HF : Hid (InsOut A n c E n x w (.returned v9) w9) := Lib.hid (by
    refine ⟨v9, rfl, ?_, ⟨ha9.2.1.os, ha9.2.1.tape, ha9.2.1.output, ha9.2.1.size, fun k hk hs => ha9.2.1.block k hk fun e => hs e.symm⟩, ha9.2.2⟩
    rw [HI.out]
    unfold OwnEn
    rw [List.length_append, cellsEn_app]
    exact ha9.1)
  clear ha9
  go_wp2_with fail
  go_ret
  exact HF.out
end Go.Proofs.Ytfijlgkgbbemnaa
namespace Go.Proofs.Ytfijlgkgbbemnaa
open Go.RowKit
set_option linter.unusedVariables false
set_option linter.unusedSimpArgs false
set_option maxRecDepth 20000

theorem shape_of {w : World} {g : Nat} {t : TypeId} {cs : Array Value} (h : Blk w g t cs) : w.shape? g = some (t, cs.size) := by
  unfold Blk at h
  simp [World.shape?, h]
theorem src_en {w : World} {g i : Nat} {cur : Array Value} {E : Ents} (hg : Blk w g enT cur) (hi : i ≤ E.length) (htk : cur.toList.take (E.length * 4) = cellsEn E) (j : Nat) (v : Value) (h : (cellsEn (List.drop i E))[j]? = some v) : w.cell? ((⟨g, i * 4, none⟩ : Addr).add j) = some v := by
  rw [Addr.add_lit, hg.cell, ← Array.getElem?_toList]
  rw [← cellsEn_drop, ← htk, List.getElem?_drop, List.getElem?_take] at h
  split at h
  · exact h
  · cases h
set_option maxHeartbeats 4000000 in
theorem lp_ins_room {w : World} {g c i vb : Nat} {E : Ents} {x : Ent} (h : OwnEn w 0 (.slice (some ⟨g, 0, none⟩) E.length c) E) (hi : i < E.length) (hn : E.length ≤ 1000) (hroom : E.length + 1 ≤ c) (hb : Blk w vb enT x.cells.toArray) (hne : vb ≠ g) :
    Calls Try.prog 30 #[.slice (some ⟨g, 0, none⟩) E.length c, .int .i64 (i : Int), litE vb] w (InsOut (some ⟨g, 0, none⟩) E.length c E i x w) := by
  obtain ⟨_, _, hbs, cur, hg, hnc, hcm, hcs, htk⟩ := h.blk
  obtain ⟨n, hnn⟩ : ∃ n, n = E.length := ⟨_, rfl⟩
  have hov : ∀ lb cb, (callFunc 43 #[.slice (some ⟨vb, 0, none⟩) 1 1, .slice (some ⟨g, (i + 1) * 4, none⟩) lb cb]).run Try.prog w = .ok (.value (.bool false)) w := fun lb cb => by
    rw [run_callFunc_extern Try.func43 (by kernel_rfl) (by kernel_rfl) (by kernel_rfl) (e := Extern.SlicesOverlaps.overlaps #[rowT, rowT] #[4]) (by kernel_rfl),
      Lib.run_overlaps_apart w rowT 4 enT Try.underlying59 4 Try.sizeOf64 ⟨vb, 0, none⟩ ⟨g, (i + 1) * 4, none⟩ 1 1 lb cb hne enT enT 4 cur.size (shape_of hb) (shape_of hg) (by rw [hcs]; omega) (hb.frozen 0) (hb.frozen 4)]
    rfl
  have hdl : (cellsEn (List.drop i E)).length = (E.length - i) * 4 := by rw [cellsEn_len, List.length_drop]
  have hL : cur.toList.length = c * 4 := by simpa using hcs
  have hg0 : Blk w.drew g enT cur.toList.toArray := by simpa using hg.drew
  obtain ⟨W, h1, h2, h3⟩ := run_copyE (q := i + 1) (dLen := E.length - i) (sLen := E.length + 1 - i) (m := E.length - i) (a := ⟨g, i * 4, none⟩) (L := cur.toList) (cs := cellsEn (List.drop i E)) hg0 (show _ = min _ _ by omega) hdl (src_en (by simpa using hg0) (by omega) htk) (by rw [hdl, hL]; omega) (cellsEn_one _)
  have hbW : Blk W vb enT x.cells.toArray := (h3.block vb hb.lt hne).trans hb
  have hol : (over cur.toList (cellsEn (List.drop i E)) ((i + 1) * 4)).length = c * 4 := by rw [over_len (by rw [hdl, hL]; omega), hL]
  obtain ⟨W', k1, k2, k3⟩ := run_copyE (q := i) (dLen := E.length + 1 - i) (sLen := 1) (m := 1) (a := ⟨vb, 0, none⟩) (cs := x.cells) h2 (show _ = min _ _ by omega) rfl (fun j v hj => by
    rw [Addr.add_lit, hbW.cell, Nat.zero_add, ← hj]
    simp) (by rw [hol]; show i * 4 + 4 ≤ _; omega) (fun v hv => cellsEn_one [x] v (by simpa [cellsEn] using hv))
  have HF : Hid (InsOut (some ⟨g, 0, none⟩) n c E i x w (.returned (.slice (some ⟨g, 0, none⟩) (n + 1) c)) W') := Lib.hid (by
    rw [hnn]
    refine ⟨_, rfl, ?_, ?_, .inl rfl⟩
    · have := OwnEn.mk (l := insE E i x) (Nat.zero_le _) k2 (by rw [insE_len (by omega)]; omega) hcm (by
        have : (over (over cur.toList (cellsEn (List.drop i E)) ((i + 1) * 4)) x.cells (i * 4)).length = c * 4 := by rw [over_len (by rw [hol]; show i * 4 + 4 ≤ _; omega), hol]
        simpa using this) (by
        rw [insE_len (by omega)]
        exact ins_room x (by omega) hL hroom htk)
      rw [insE_len (by omega)] at this
      exact this
    · refine OnlyS.one (g := g) ?_ rfl
      exact (show Only g w W from ⟨h3.os, h3.tape, h3.output, h3.size, h3.block⟩).trans k3)
  rw [← hnn] at h1 k1
  clear h2 h3 k2 k3 hol hbW
  rw [← hnn] at hi hn hroom ⊢
  have hne1 : ¬ ((i : Int) = (n : Int)) := by omega
  have hw1 : IntKind.i64.wrap ((i : Int) + 1) = (i : Int) + 1 := by rw [IntKind.wrap_i64]; omega
  have hb1 : (0 : Int) ≤ (i : Int) + 1 := by omega
  have htn : ((i : Int) + 1).toNat = i + 1 := by omega
  have hb2 : ¬ (c = i + 1) := by omega
  have hb3 : (i : Int) ≤ (n : Int) + 1 := by omega
  have hb4 : ¬ (c = i) := by omega
  have hin : i ≤ n := by omega
  have mixed : Try.prog.follows Departure.mixedOrders = true := by kernel_rfl
  have hc63 : c ≤ 9223372036854775807 := by simp only [maxLen] at hcm; omega
  clear hg0 hL hdl htk hcs hcm hnc hg hbs h hb hnn
  go_enter Try.func30, Try.ntmps30
  go_upto_region 14 with (fail)
  go_wp2_with (simp only [hov])
  go_region_law_o (refine step_copyR rfl _ _ rowT rowT rfl _ _ (by simp [Act.eval, Act.put]) (by simp [Act.eval, Act.put]) (h1 _ _ _) ?_)
  go_wp2_with (at_builtin; refine wpList_copyR rfl _ _ rowT rowT rfl _ _ rfl rfl (k1 _ _ _) ?_)
  go_ret
  exact HF.out
end Go.Proofs.Ytfijlgkgbbemnaa
namespace Go.Proofs.Ytfijlgkgbbemnaa
open Go.RowKit
set_option linter.unusedVariables false
set_option linter.unusedSimpArgs false
set_option maxRecDepth 20000

theorem zeroE_len (k : Nat) : (Builtin.zeroCells zE.val.cells k).size = k * 4 := by simp [Builtin.zeroCells, Value.cells]
theorem zeroE_lenL (k : Nat) : (Builtin.zeroCells zE.val.cells k).toList.length = k * 4 := by rw [Array.length_toList, zeroE_len]
set_option maxHeartbeats 4000000 in
theorem lp_ins_grow {w : World} {g c i vb : Nat} {E : Ents} {x : Ent} (h : OwnEn w 0 (.slice (some ⟨g, 0, none⟩) E.length c) E) (hi : i < E.length) (hn : E.length ≤ 1000) (hroom : c = E.length) (hb : Blk w vb enT x.cells.toArray) :
    Calls Try.prog 30 #[.slice (some ⟨g, 0, none⟩) E.length c, .int .i64 (i : Int), litE vb] w (InsOut (some ⟨g, 0, none⟩) E.length c E i x w) := by
  subst hroom
  obtain ⟨_, _, hbs, cur, hg, hnc, hcm, hcs, htk⟩ := h.blk
  obtain ⟨i0, hi0, hz0, hz1, hz2⟩ := info_parts en_info
  obtain ⟨n, hnn⟩ : ∃ n, n = E.length := ⟨_, rfl⟩
  have hdl : (cellsEn (List.drop i E)).length = (E.length - i) * 4 := by rw [cellsEn_len, List.length_drop]
  have htl : (cellsEn (List.take i E)).length = i * 4 := by rw [cellsEn_len, List.length_take]; congr 1; omega
  have hLc : cur.toList = cellsEn E := by rw [← htk, List.take_of_length_le (by simp [hcs])]
  have hg' : Blk w g enT cur := hg
  -- the new row
  obtain ⟨gc, hgc⟩ : ∃ gc, gc = grownCap w (i + (E.length + 1 - i)) E.length enT := ⟨_, rfl⟩
  have hge : i + (E.length + 1 - i) ≤ gc := by rw [hgc]; exact grownCap_ge w _ _ _
  have hgm : gc ≤ maxLen := by rw [hgc]; exact grownCap_le_maxLen w _ _ _ (by unfold maxLen; omega)
  have hold : (Builtin.firstCells i0.size i (.slice (some ⟨g, 0, none⟩) i E.length)).run Try.prog w.drew = .ok (cellsEn (List.take i E)).toArray w.drew := run_firstCells_some w.drew i0.size i ⟨g, 0, none⟩ i E.length (cellsEn (List.take i E)) (by rw [hz1, htl]) (fun j v hj => by
    rw [Addr.add_lit, Nat.zero_add, hg'.drew.cell, ← Array.getElem?_toList, hLc]
    rw [← cellsEn_take, List.getElem?_take] at hj
    split at hj
    · exact hj
    · cases hj)
  have hr := fun ty => Lib.run_append_grow_zeros (P := Try.prog) w rowT 3 ty enT i0 _ .i64 .i64 Try.underlying59 Try.underlying3 hi0 hz0 (some ⟨g, 0, none⟩) i E.length (cellsEn (List.take i E)) hold (E.length + 1 - i) (by omega) (by omega) (by omega) (by omega) (by rw [hz2]; omega)
    (by rw [hz2]; exact growslice_fits (by omega) (by omega))
  rw [← hgc] at hr
  obtain ⟨L0, hL0⟩ : ∃ L0, L0 = (cellsEn (List.take i E)).toArray ++ Builtin.zeroCells zE.val.cells (E.length + 1 - i) ++ Builtin.zeroCells zE.val.cells (gc - (i + (E.length + 1 - i))) := ⟨_, rfl⟩
  rw [← hL0] at hr
  obtain ⟨Z, hZ⟩ : ∃ Z, Z = (Builtin.zeroCells zE.val.cells (E.length + 1 - i)).toList ++ (Builtin.zeroCells zE.val.cells (gc - (i + (E.length + 1 - i)))).toList := ⟨_, rfl⟩
  have hL0l : L0.toList = cellsEn (List.take i E) ++ Z := by rw [hL0, hZ]; simp
  have hZl : Z.length = (gc - i) * 4 := by rw [hZ, List.length_append, zeroE_lenL, zeroE_lenL]; omega
  obtain ⟨W0, hW0⟩ : ∃ W0, W0 = w.drew.alloc (.cells L0 enT) := ⟨_, rfl⟩
  have hB0 : Blk W0 w.heap.size enT (cellsEn (List.take i E) ++ Z).toArray := by
    rw [hW0, ← hL0l]
    exact heap_alloc_new w.drew _
  have hbel : Below w.heap.size w W0 := by
    rw [hW0]
    exact (belowDrewN w 1).trans ((belowA (w.drewN 1) _).mono (Nat.le_refl _))
  rw [← hW0] at hr
  have hb0 : Blk W0 vb enT x.cells.toArray := hb.below hbel hb.lt
  have hg0 : Blk W0 g enT cur := hg'.below hbel hg'.lt
  obtain ⟨W1, k1, k2, k3⟩ := run_copyE (q := i) (dLen := E.length + 1 - i) (sLen := 1) (m := 1) (a := ⟨vb, 0, none⟩) (cs := x.cells) hB0 (show _ = min _ _ by omega) rfl (fun j v hj => by
    rw [Addr.add_lit, hb0.cell, Nat.zero_add, ← hj]
    simp) (by rw [List.length_append, htl, hZl]; show i * 4 + 4 ≤ _; omega) (fun v hv => cellsEn_one [x] v (by simpa [cellsEn] using hv))
  have hg1 : Blk W1 g enT cur := (k3.block g hg0.lt (by have := hg'.lt; omega)).trans hg0
  have hol : (over (cellsEn (List.take i E) ++ Z) x.cells (i * 4)).length = gc * 4 := by rw [over_len (by rw [List.length_append, htl, hZl]; show i * 4 + 4 ≤ _; omega), List.length_append, htl, hZl]; omega
  obtain ⟨W2, l1, l2, l3⟩ := run_copyE (w := W1.drew) (q := i + 1) (dLen := E.length - i) (sLen := E.length - i) (m := E.length - i) (a := ⟨g, i * 4, none⟩) (cs := cellsEn (List.drop i E)) k2.drew (show _ = min _ _ by omega) hdl (src_en hg1.drew (by omega) htk) (by rw [hdl, hol]; omega) (cellsEn_one _)
  have HF : Hid (InsOut (some ⟨g, 0, none⟩) n n E i x w (.returned (.slice (some ⟨w.heap.size, 0, none⟩) (n + 1) gc)) W2) := Lib.hid (by
    rw [hnn]
    refine ⟨_, rfl, ?_, ?_, .inr rfl⟩
    · have := OwnEn.mk (l := insE E i x) (Nat.zero_le _) l2 (by rw [insE_len (by omega)]; omega) hgm (by
        have : (over (over (cellsEn (List.take i E) ++ Z) x.cells (i * 4)) (cellsEn (List.drop i E)) ((i + 1) * 4)).length = gc * 4 := by rw [over_len (by rw [hol, hdl]; omega), hol]
        simpa using this) (by
        rw [insE_len (by omega)]
        exact ins_new x (by omega) (by rw [hZl]; omega))
      rw [insE_len (by omega)] at this
      exact this
    · have b1 : Below w.heap.size w W1 := hbel.trans (k3.below (Nat.le_refl _) hbel.size)
      have b2 : Below w.heap.size w W2 := b1.trans ((show Only w.heap.size W1 W2 from ⟨l3.os, l3.tape, l3.output, l3.size, l3.block⟩).below (Nat.le_refl _) b1.size)
      exact OnlyS.of b2)
  rw [← hnn] at hr k1 l1 hi hn hge ⊢
  have hs1 : ((n + 1 - i : Nat) : Int) = (n : Int) + 1 - (i : Int) := by omega
  have hs2 : i + (n + 1 - i) = n + 1 := by omega
  simp only [hs1, hs2] at hr
  rw [hs2] at hge
  have hgcn : n + 1 ≤ gc := hge
  have hgc63 : gc ≤ 9223372036854775807 := by simp only [maxLen] at hgm; omega
  clear hs1 hs2 l2 l3 k2 k3 hol hg1 hg0 hb0 hbel hB0 hW0 hZl hL0l hZ hL0 hold hge hgm hgc hg' hLc htl hdl hz0 hz1 hz2 hi0 hg hnc hcm hcs htk h hb hnn hbs
  have hne1 : ¬ ((i : Int) = (n : Int)) := by omega
  have hw1 : IntKind.i64.wrap ((i : Int) + 1) = (i : Int) + 1 := by rw [IntKind.wrap_i64]; omega
  have hb1 : (0 : Int) ≤ (i : Int) + 1 := by omega
  have htn : ((i : Int) + 1).toNat = i + 1 := by omega
  have hb2 : ¬ (gc = i + 1) := by omega
  have hb3 : (i : Int) ≤ (n : Int) + 1 := by omega
  have hb4 : ¬ (gc = i) := by omega
  have hb5 : ¬ (n = i) := by omega
  have hin : i ≤ n := by omega
  have mixed : Try.prog.follows Departure.mixedOrders = true := by kernel_rfl
  go_enter Try.func30, Try.ntmps30
  go_upto_region 9 with (fail)
  go_wp2_with (at_builtin; (first | refine wpList_appendR rfl _ _ rowT 3 rfl _ _ rfl rfl (hr _) ?_ | refine wpList_copyR rfl _ _ rowT rowT rfl _ _ rfl rfl (k1 _ _ _) ?_))
  go_region_law_o (refine step_copyR rfl _ _ rowT rowT rfl _ _ (by simp [Act.eval, Act.put]) (by simp [Act.eval, Act.put]) (l1 _ _ _) ?_)
  go_wp2_with fail
  go_ret
  exact HF.out
theorem lp_insert {w : World} {A : Option Addr} {n c i vb : Nat} {E : Ents} {x : Ent} (h : OwnEn w 0 (.slice A n c) E) (hE : n = E.length) (hi : i ≤ n) (hn : n ≤ 1000) (hb : Blk w vb enT x.cells.toArray) (hne : ∀ ad, A = some ad → vb ≠ ad.block) :
    Calls Try.prog 30 #[.slice A n c, .int .i64 (i : Int), litE vb] w (InsOut A n c E i x w) := by
  rcases Nat.lt_or_ge i n with hlt | hge
  · obtain ⟨A', c', e, hnc, hr, _⟩ := h.val
    injection e with e1 e2 e3
    subst e1 e3 hE
    have hl := hr.1
    obtain ⟨b, off, rfl, hbl, p0, p1, p2, p3⟩ := rx_en hr hlt
    obtain ⟨rfl, _⟩ := h.blk
    by_cases hroom : E.length + 1 ≤ c
    · exact lp_ins_room h hlt hn hroom hb (hne _ rfl)
    · exact lp_ins_grow h hlt hn (by omega) hb
  · have : i = n := by omega
    subst this
    exact lp_ins_end h hE hn hb
end Go.Proofs.Ytfijlgkgbbemnaa
