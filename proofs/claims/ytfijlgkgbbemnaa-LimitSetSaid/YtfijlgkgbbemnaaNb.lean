/- slices.IndexFunc and slices.DeleteFunc at the project's rows, with what Tick asks. slices.DeleteFunc at the project's rows, with what Tick asks. -/
import Derived.Test.YtfijlgkgbbemnaaNa
namespace Go.Proofs.Ytfijlgkgbbemnaa
open Go.RowKit
set_option linter.unusedVariables false
set_option linter.unusedSimpArgs false
set_option maxRecDepth 20000

/-- What Tick asks of a row, as a value: its time is at g. -/
@[reducible] def goneF (g : Nat) : Value := .func (.func 34) #[] #[.pointer (some ⟨g, 0, none⟩)]
/-- The first whose time has come. -/
def IdxAt (E : Ents) (now : Int) (r : Int) : Prop := (r = -1 ∧ ∀ k (hk : k < E.length), now < E[k].u) ∨ ∃ q : Nat, r = (q : Int) ∧ ∃ hq : q < E.length, E[q].u ≤ now ∧ ∀ k (hk : k < E.length), k < q → now < E[k].u
set_option maxHeartbeats 1000000 in
theorem lp_index {w : World} {A : Option Addr} {n c g : Nat} {E : Ents} {now : Int} (h : RX w w.heap.size A n c 4 (cellsEn E)) (hn : n ≤ 1000) (hg : w.cell? ⟨g, 0, none⟩ = some (.int .i64 now)) (hgl : g < w.heap.size) :
    Calls Try.prog 46 #[.slice A n c, goneF g] w (fun e w' => ∃ r, e = .returned (.int .i64 r) ∧ IdxAt E now r ∧ Below w.heap.size w w') := by
  have HR := Lib.hid h
  have HN : Hid (E.length = n) := Lib.hid (by have := h.1; rw [cellsEn_len] at this; omega)
  have HG := Lib.hid (And.intro hg hgl)
  clear h hg hgl
  go_enter Try.func46, Try.ntmps46
  go_wp2_with fail
  go_loopw [5, 8] (fun _ i wr => ∃ q : Nat, q ≤ n ∧ i = .int .i64 (q : Int) ∧ Hid (Below w.heap.size w wr ∧ ∀ k (hk : k < E.length), k < q → now < E[k].u)) (fun _ i _ => n - (intOf i).toNat)
  case atStart => exact ⟨0, by omega, rfl, Lib.hid ⟨Below.refl _ _, fun k hk h => absurd h (by omega)⟩⟩
  case round =>
    obtain ⟨q, hq, rfl, HO⟩ := hrel
    by_cases hlt : q < n
    · have hql : q < E.length := by have := HN.out; omega
      obtain ⟨b, off, rfl, hbA, a0, a1, a2, a3⟩ := rx_en (HR.out.below HO.out.1) hql
      have hsz := HO.out.1.size
      have HC := Lib.hid (lp_gone E[q] (now := now) ((HO.out.1.cell (p := ⟨g, 0, none⟩) HG.out.2).trans HG.out.1) (Nat.lt_of_lt_of_le HG.out.2 hsz))
      have HS : Hid (now < E[q].u → ∀ k (hk : k < E.length), k < q + 1 → now < E[k].u) := Lib.hid fun h1 k hk h2 => by
        rcases Nat.lt_or_ge k q with h3 | h3
        · exact HO.out.2 k hk h3
        · have : k = q := by omega
          subst this
          exact h1
      have HD : Hid (E[q].u ≤ now → IdxAt E now (q : Int)) := Lib.hid fun h1 => .inr ⟨q, rfl, hql, h1, HO.out.2⟩
      have HB := Lib.hid HO.out.1
      clear HO
      generalize E[q] = x at *
      clear hbA hql hsz
      have g2 : (q : Int) < (n : Int) := by omega
      by_cases hgo : x.u ≤ now
      · have hd : decide (x.u ≤ now) = true := by simpa using hgo
        rw [hd] at HC
        have HX := Lib.hid (HD.out hgo)
        clear HS HD hd
        obtain ⟨⟨xo, xr, xv⟩, xu⟩ := x
        simp only at a0 a1 a2 a3 HC
        go_wp2_with fail
        ((with_reducible refine HC.out.mono ?_); rintro e W2 ⟨rfl, b2⟩)
        have HF := Lib.hid (HB.out.trans (b2.mono HB.out.size))
        clear a0 a1 a2 a3 b2 HC
        go_wp2_with fail
        go_ret
        exact ⟨_, rfl, HX.out, HF.out⟩
      · have hd : decide (x.u ≤ now) = false := by simpa using hgo
        rw [hd] at HC
        have HX := Lib.hid (HS.out (by omega))
        clear HS HD hd hgo
        obtain ⟨⟨xo, xr, xv⟩, xu⟩ := x
        simp only at a0 a1 a2 a3 HC
        go_wp2_with fail
        ((with_reducible refine HC.out.mono ?_); rintro e W2 ⟨rfl, b2⟩)
        have HF := Lib.hid (HB.out.trans (b2.mono HB.out.size))
        clear a0 a1 a2 a3 b2 HC
        go_wp2_with fail
        go_roundw
        case rel => exact ⟨q + 1, by omega, by go_num, Lib.hid ⟨HF.out, HX.out⟩⟩
        case measure => simp [intOf]; omega
    · have hqn : q = n := by omega
      subst hqn
      have z1 : ¬ (q : Int) < (q : Int) := by omega
      have HX : Hid (IdxAt E now (-1)) := Lib.hid (.inl ⟨rfl, fun k hk => HO.out.2 k hk (by have := HN.out; omega)⟩)
      have HB := Lib.hid HO.out.1
      clear HO hlt
      go_wp2_with fail
      go_ret
      exact ⟨_, rfl, HX.out, HB.out⟩
end Go.Proofs.Ytfijlgkgbbemnaa
namespace Go.Proofs.Ytfijlgkgbbemnaa
open Go.RowKit
set_option linter.unusedVariables false
set_option linter.unusedSimpArgs false
set_option maxRecDepth 20000

/-- While the row is written over: its first i are what is left of the first j. -/
structure DelAt (w : World) (v : Value) (E : Ents) (now : Int) (i j : Nat) (R : Ents) (wr : World) : Prop where
  own : OwnEn wr 0 v R
  len : R.length = E.length
  first : List.take i R = tickE (List.take j E) now
  rest : List.drop j R = List.drop j E
  lt : i < j
  le : j ≤ E.length
  only : OnlyS (fun k => v.ownBlock = some k) w wr
theorem tickE_all {E : Ents} {now : Int} (h : ∀ k (hk : k < E.length), now < E[k].u) : tickE E now = E := List.filter_eq_self.2 fun e he => by
  obtain ⟨k, hk, rfl⟩ := List.mem_iff_getElem.1 he
  simpa using h k hk
theorem tickE_snoc {E : Ents} {j : Nat} (hj : j < E.length) (now : Int) : tickE (List.take (j + 1) E) now = tickE (List.take j E) now ++ (if now < E[j].u then [E[j]] else []) := by
  unfold tickE
  rw [List.take_succ_eq_append_getElem hj, List.filter_append]
  by_cases h : now < E[j].u <;> simp [h]
theorem DelAt.start {w wr : World} {v : Value} {E : Ents} {now : Int} {q : Nat} (hown : OwnEn wr 0 v E) (hq : q < E.length) (h1 : E[q].u ≤ now) (h2 : ∀ k (hk : k < E.length), k < q → now < E[k].u) (ho : OnlyS (fun k => v.ownBlock = some k) w wr) : DelAt w v E now q (q + 1) E wr := by
  refine ⟨hown, rfl, ?_, rfl, by omega, by omega, ho⟩
  rw [tickE_snoc hq, if_neg (by omega), List.append_nil]
  refine (tickE_all fun k hk => ?_).symm
  rw [List.length_take] at hk
  rw [List.getElem_take]
  exact h2 k (by omega) (by omega)
theorem DelAt.get {w wr : World} {v : Value} {E R : Ents} {now : Int} {i j : Nat} (h : DelAt w v E now i j R wr) (hj : j < E.length) : ∃ hR : j < R.length, R[j] = E[j] := by
  have hR : j < R.length := by rw [h.len]; exact hj
  refine ⟨hR, ?_⟩
  have := congrArg (fun l => l[0]?) h.rest
  simp only [List.getElem?_drop, Nat.add_zero] at this
  rw [List.getElem?_eq_getElem hR, List.getElem?_eq_getElem hj] at this
  exact Option.some.inj this
theorem DelAt.skip {w wr w' : World} {v : Value} {E R : Ents} {now : Int} {i j : Nat} (h : DelAt w v E now i j R wr) (hj : j < E.length) (hg : E[j].u ≤ now) (hb : Below wr.heap.size wr w') : DelAt w v E now i (j + 1) R w' := by
  refine ⟨h.own.on hb, h.len, ?_, ?_, by have := h.lt; omega, by omega, h.only.trans (OnlyS.of (S := fun _ => False) hb) (fun _ h => h.elim)⟩
  · rw [tickE_snoc hj, if_neg (by omega), List.append_nil]
    exact h.first
  · have := congrArg (List.drop 1) h.rest
    simpa [List.drop_drop] using this
theorem DelAt.put {w wr w' W : World} {v : Value} {E R : Ents} {now : Int} {i j : Nat} (h : DelAt w v E now i j R wr) (hj : j < E.length) (hg : now < E[j].u) (hb : Below wr.heap.size wr w') {g off n c : Nat} (hv : v = .slice (some ⟨g, off, none⟩) n c) (hW : W = setEn w' g off i E[j]) : DelAt w v E now (i + 1) (j + 1) (R.set i E[j]) W := by
  subst hW
  have hi : i < R.length := by rw [h.len]; have := h.lt; omega
  have ho : OwnEn w' 0 v R := h.own.on hb
  subst hv
  obtain ⟨o2, ou⟩ := ho.setAll (x := E[j]) hi
  refine ⟨o2, by rw [List.length_set]; exact h.len, ?_, ?_, by have := h.lt; omega, by omega, (h.only.trans (OnlyS.of (S := fun _ => False) hb) (fun _ h => h.elim)).trans (OnlyS.one (S := fun k => some k = some g) ou rfl) (fun k hk _ => by simpa [Value.ownBlock] using hk.symm)⟩
  · rw [tickE_snoc hj, if_pos hg, ← h.first, List.take_set, List.take_succ_eq_append_getElem hi, List.set_append_right _ _ (by rw [List.length_take]; omega)]
    rw [List.length_take, Nat.min_eq_left (by omega), Nat.sub_self]
    rfl
  · rw [List.drop_set_of_lt (by have := h.lt; omega)]
    have := congrArg (List.drop 1) h.rest
    simpa [List.drop_drop] using this
def DelOut (A : Option Addr) (c : Nat) (E : Ents) (now : Int) (w : World) (e : Ending) (w' : World) : Prop :=
  e = .returned (.slice A (tickE E now).length c) ∧ OwnEn w' 0 (.slice A (tickE E now).length c) (tickE E now) ∧ OnlyS (fun k => (Value.slice A E.length c).ownBlock = some k) w w'
theorem DelAt.fin {w wr : World} {E R : Ents} {now : Int} {i g off c : Nat} (h : DelAt w (.slice (some ⟨g, off, none⟩) E.length c) E now i E.length R wr) (ty : TypeId) :
    i = (tickE E now).length ∧ i < c ∧ ∃ W, (Builtin.clear_ #[59] ty #[.slice (some ⟨g, off + i * 4, none⟩) (E.length - i) (c - i)]).run Try.prog wr = .ok (.tuple #[]) W ∧ OwnEn W 0 (.slice (some ⟨g, off, none⟩) i c) (tickE E now) ∧ OnlyS (fun k => (Value.slice (some ⟨g, off, none⟩) E.length c).ownBlock = some k) w W := by
  have hf := h.first
  rw [List.take_length] at hf
  have hi : i < R.length := by rw [h.len]; exact h.lt
  have hlen : i = (tickE E now).length := by rw [← hf, List.length_take]; omega
  obtain ⟨rfl, hn, hb, cur, hg, hnc, hcm, hcs, htk⟩ := h.own.blk
  have hlt : i < E.length := h.lt
  have hzc : (Builtin.zeroCells zE.val.cells (E.length - i)).toList.length = (E.length - i) * 4 := by simp [Builtin.zeroCells, Value.cells]
  have hz1 : ∀ v ∈ (Builtin.zeroCells zE.val.cells (E.length - i)).toList, v.oneCell' = true := by
    intro v hv
    have hv2 : v ∈ Builtin.zeroCells zE.val.cells (E.length - i) := by simpa using hv
    obtain ⟨k, hk, rfl⟩ := Array.mem_iff_getElem.1 hv2
    have h4 : k % 4 < 4 := Nat.mod_lt _ (by omega)
    have h5 : k % 4 = 0 ∨ k % 4 = 1 ∨ k % 4 = 2 ∨ k % 4 = 3 := by omega
    rcases h5 with h5 | h5 | h5 | h5 <;> simp [Builtin.zeroCells, Value.cells, h5] <;> rfl
  have hr := run_clearK (P := Try.prog) wr 59 64 ty zE.val Try.underlying59 Try.zeroValue64 g (0 + i * 4) (E.length - i) (c - i) (by omega) cur 64 hg (by rw [hzc, hcs]; omega) hz1
  have hl2 := h.len
  have hk : OwnEn (wr.setRow g (cur.toList.take (0 + i * 4) ++ (Builtin.zeroCells zE.val.cells (E.length - i)).toList ++ cur.toList.drop (0 + i * 4 + (Builtin.zeroCells zE.val.cells (E.length - i)).toList.length)).toArray) 0 (.slice (some ⟨g, 0, none⟩) (tickE E now).length c) (tickE E now) := by
    refine OwnEn.mk hb (setRow_heap wr g cur _ _ _ hg) (by omega) hcm ?_ ?_
    · have hsz : cur.toList.length = c * 4 := by simpa using hcs
      simp only [List.size_toArray, List.length_append, List.length_take, List.length_drop, hzc, hsz]
      omega
    · rw [← hlen, ← hf, ← cellsEn_take, ← htk, List.take_take, Nat.zero_add]
      simp only [List.append_assoc]
      rw [List.take_append_of_le_length (by simp; omega), List.take_take, Nat.min_self, Nat.min_eq_left (Nat.mul_le_mul_right 4 (by omega))]
  refine ⟨hlen, by omega, _, hr, ?_, ?_⟩
  · rw [← hlen] at hk
    exact hk
  · refine h.only.trans (OnlyS.one (S := fun k => (Value.slice (some ⟨g, 0, none⟩) E.length c).ownBlock = some k) (g := g) ⟨rfl, rfl, rfl, by simp [World.setRow], fun k _ hn => setRow_other wr g k _ hn⟩ rfl) (fun k hk _ => hk)
set_option maxHeartbeats 2000000 in
theorem lp_delete {w : World} {A : Option Addr} {c g : Nat} {E : Ents} {now : Int} (h : OwnEn w 0 (.slice A E.length c) E) (hn : E.length ≤ 1000) (hg : w.cell? ⟨g, 0, none⟩ = some (.int .i64 now)) (hgl : g < w.heap.size) (hgA : ∀ ad, A = some ad → ad.block ≠ g) :
    Calls Try.prog 33 #[.slice A E.length c, goneF g] w (DelOut A c E now w) := by
  obtain ⟨A', c', e, hnc, hr, _⟩ := h.val
  injection e with e1 e2 e3
  subst e1 e3
  have HC := Lib.hid (lp_index hr hn hg hgl)
  obtain ⟨n, hnn⟩ : ∃ n, n = E.length := ⟨_, rfl⟩
  have HN := Lib.hid hnn
  have HG := Lib.hid (And.intro hg (And.intro hgl hgA))
  have HO := Lib.hid h
  rw [← hnn] at HC hnc hn ⊢
  clear h hr hg hgl hgA hnn
  go_enter Try.func33, Try.ntmps33
  go_wp2_with fail
  ((with_reducible refine HC.out.mono ?_); rintro e W1 ⟨r, rfl, hidx, b1⟩)
  rcases hidx with ⟨rfl, hall⟩ | ⟨q, rfl, hq, h1, h2⟩
  · have hT := tickE_all hall
    have HF : Hid (DelOut A c E now w (.returned (.slice A n c)) W1) := Lib.hid (by
      unfold DelOut
      rw [hT, ← HN.out]
      have := HO.out.on b1
      rw [← HN.out] at this
      exact ⟨rfl, this, OnlyS.of b1⟩)
    clear hall hT b1 HC HO HG
    go_wp2_with fail
    go_ret
    exact HF.out
  · have q1 : ¬ (q : Int) = -1 := by omega
    have q2 : ((q : Int) == -1) = false := by simp
    have HQ : Hid (DelAt w (.slice A E.length c) E now q (q + 1) E W1) := Lib.hid (DelAt.start (HO.out.on b1) hq h1 h2 (OnlyS.of b1))
    have hqn : q < n := by have := HN.out; omega
    clear h1 h2 HC HO hq b1
    go_wp2_with fail
    go_loopw [5, 6, 7] (fun i j _ wr => ∃ a b : Nat, i = .int .i64 (a : Int) ∧ j = .int .i64 (b : Int) ∧ b ≤ n ∧ (∃ R, Hid (DelAt w (.slice A E.length c) E now a b R wr))) (fun _ j _ _ => n - (intOf j).toNat)
    case atStart => exact ⟨q, q + 1, rfl, by go_num, by omega, E, HQ⟩
    case round =>
      obtain ⟨i, j, rfl, rfl, hj, R, HD⟩ := hrel
      by_cases hlt : j < n
      · have hjl : j < E.length := by have := HN.out; omega
        obtain ⟨hR, hRE⟩ := HD.out.get hjl
        obtain ⟨A', c', e, _, hrx, _⟩ := HD.out.own.val
        injection e with e1 e2 e3
        subst e1 e3
        obtain ⟨b, off, rfl, hbA, a0, a1, a2, a3⟩ := rx_en hrx hR
        rw [hRE] at a0 a1 a2 a3
        have hgw : wr.cell? ⟨g, 0, none⟩ = some (.int .i64 now) := (HD.out.only.cell (p := ⟨g, 0, none⟩) HG.out.2.1 (fun h => HG.out.2.2 _ rfl (by simpa [Value.ownBlock] using h))).trans HG.out.1
        have hgs : g < wr.heap.size := Nat.lt_of_lt_of_le HG.out.2.1 HD.out.only.size
        have hb0 := belowA wr (.cells #[.int .u32 (E[j].t.owner : Int), .int .u64 (E[j].t.rate : Int), .int .i64 E[j].t.over, .int .i64 E[j].u] 64)
        have HC := Lib.hid (lp_gone E[j] (now := now) ((hb0.cell (p := ⟨g, 0, none⟩) hgs).trans hgw) (Nat.lt_of_lt_of_le hgs hb0.size))
        have HB := Lib.hid hb0
        have HBK := Lib.hid (Blk.new wr 64 #[.int .u32 (E[j].t.owner : Int), .int .u64 (E[j].t.rate : Int), .int .i64 E[j].t.over, .int .i64 E[j].u])
        have hil : i < n := by have := HD.out.lt; omega
        have HP : Hid (now < E[j].u → ∀ w' W, Below wr.heap.size wr w' → W = setEn w' b off i E[j] → DelAt w (.slice (some ⟨b, off, none⟩) E.length c) E now (i + 1) (j + 1) (R.set i E[j]) W) := Lib.hid fun h1 w' W h2 h3 => HD.out.put hjl h1 h2 rfl h3
        have HS : Hid (E[j].u ≤ now → ∀ W, Below wr.heap.size wr W → DelAt w (.slice (some ⟨b, off, none⟩) E.length c) E now i (j + 1) R W) := Lib.hid fun h1 W h2 => HD.out.skip hjl h1 h2
        have hi0 : i < R.length := by rw [HD.out.len]; have := HN.out; omega
        have HF : Hid (∀ W, Below wr.heap.size wr W → (∀ k, W.frozen? ⟨b, k, none⟩ = false) ∧ ∃ y0 y1 y2 y3, W.cell? ⟨b, off + i * 4, none⟩ = some y0 ∧ W.cell? ⟨b, off + i * 4 + 1, none⟩ = some y1 ∧ W.cell? ⟨b, off + i * 4 + 2, none⟩ = some y2 ∧ W.cell? ⟨b, off + i * 4 + 3, none⟩ = some y3) := Lib.hid fun W h2 => by
          have ho := HD.out.own.on h2
          refine ⟨ho.froz, ?_⟩
          obtain ⟨_, _, e, _, hrx, _⟩ := ho.val
          injection e with e1 e2 e3
          subst e1 e3
          obtain ⟨_, _, e, _, p0, p1, p2, p3⟩ := rx_en hrx hi0
          cases e
          exact ⟨_, _, _, _, p0, p1, p2, p3⟩
        clear hgw hgs hb0 hrx hi0 HD HG
        generalize E[j] = x at *
        clear hRE
        obtain ⟨⟨xo, xr, xv⟩, xu⟩ := x
        simp only at a0 a1 a2 a3 HC HB HBK HP HS
        have g2 : (j : Int) < (n : Int) := by omega
        clear hbA hR hjl
        by_cases hgo : xu ≤ now
        · have hd : decide (xu ≤ now) = true := by simpa using hgo
          rw [hd] at HC
          have HX := Lib.hid (HS.out hgo)
          clear HP HS HF hd
          go_wp2_with fail
          ((with_reducible refine HC.out.mono ?_); rintro e W2 ⟨rfl, b2⟩)
          have HY := Lib.hid (HB.out.trans (b2.mono HB.out.size))
          clear a0 a1 a2 a3 b2 HC
          go_wp2_with fail
          go_roundw
          case rel => exact ⟨i, j + 1, rfl, by go_num, by omega, R, Lib.hid (HX.out _ HY.out)⟩
          case measure => simp [intOf]; omega
        · have hd : decide (xu ≤ now) = false := by simpa using hgo
          rw [hd] at HC
          have HX := Lib.hid (HP.out (by omega))
          clear HP HS hd hgo
          go_wp2_with fail
          ((with_reducible refine HC.out.mono ?_); rintro e W2 ⟨rfl, b2⟩)
          have HY := Lib.hid (HB.out.trans (b2.mono HB.out.size))
          have hB2 := HBK.out.below b2 HBK.out.lt
          have k0 := hB2.cell 0
          have k1 := hB2.cell 1
          have k2 := hB2.cell 2
          have k3 := hB2.cell 3
          have f0 := (HF.out W2 HY.out).1 (off + i * 4)
          have f1 := (HF.out W2 HY.out).1 (off + i * 4 + 1)
          have f2 := (HF.out W2 HY.out).1 (off + i * 4 + 2)
          have f3 := (HF.out W2 HY.out).1 (off + i * 4 + 3)
          obtain ⟨y0, y1, y2, y3, p0, p1, p2, p3⟩ := (HF.out W2 HY.out).2
          have g3 : (i : Int) < (n : Int) := by omega
          clear a0 a1 a2 a3 b2 HC hB2
          go_wp2_with fail
          go_roundw
          case rel => exact ⟨i + 1, j + 1, by go_num, by go_num, by omega, _, Lib.hid (HX.out W2 _ HY.out rfl)⟩
          case measure => simp [intOf]; omega
      · have hjn : j = n := by omega
        have hje : j = E.length := by have := HN.out; omega
        rw [hje] at HD
        have z1 : ¬ (j : Int) < (n : Int) := by omega
        obtain ⟨A', c', e, _, hrx, _⟩ := HD.out.own.val
        injection e with e1 e2 e3
        subst e1 e3
        have hil : i < n := by have := HD.out.lt; have := HN.out; omega
        have hi0 : i < R.length := by rw [HD.out.len]; exact HD.out.lt
        obtain ⟨b, off, rfl, hbq, p0, p1, p2, p3⟩ := rx_en hrx hi0
        clear hbq p0 p1 p2 p3
        have hff := fun ty => HD.out.fin ty
        obtain ⟨hie, hic, W, _⟩ := hff 0
        rw [← HN.out] at hff
        have HZ : Hid (∀ ty, ∃ W, (Builtin.clear_ #[59] ty #[.slice (some ⟨b, off + i * 4, none⟩) (n - i) (c - i)]).run Try.prog wr = .ok (.tuple #[]) W ∧ DelOut (some ⟨b, off, none⟩) c E now w (.returned (.slice (some ⟨b, off, none⟩) i c)) W) := Lib.hid fun ty => by
          obtain ⟨_, _, W, h1, h2, h3⟩ := hff ty
          refine ⟨W, h1, ?_⟩
          unfold DelOut
          rw [← hie]
          rw [← HN.out]
          exact ⟨rfl, h2, h3⟩
        clear hff HD hrx hi0 hie hje hlt
        obtain ⟨WZ, hz1, hz2⟩ := HZ.out 0
        have HW := Lib.hid hz2
        clear hz2 HZ
        go_wp2_with fail
        go_ret
        exact HW.out
end Go.Proofs.Ytfijlgkgbbemnaa
