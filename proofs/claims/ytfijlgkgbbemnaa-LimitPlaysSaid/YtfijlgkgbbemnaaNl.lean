/- Contract of the project's bound: Set. Contracts of the project's bound: Rate. -/
import Derived.Test.YtfijlgkgbbemnaaNk
namespace Go.Proofs.Ytfijlgkgbbemnaa
open Go.RowKit
set_option linter.unusedVariables false
set_option linter.unusedSimpArgs false
set_option maxRecDepth 20000

/-- What is known of the row so far, P, and of the last one that was found, a. -/
def StS (ls P : List Ln) (a : Ln) (sm : Bool) : Prop := if sm = true then SoFar ls P a ∧ Low ls a ∧ P.length ≤ a.v else BSet ls P
theorem st_first {ls : List Ln} {a : Ln} {sm : Bool} (h : LsS ls sm a) : StS ls [] a sm := by
  cases sm
  · exact (show BSet ls [] from .inl ⟨(show ls = [] ∧ a = ⟨0, 0, 0⟩ from h).1, rfl⟩)
  · have h : IsLeast ls a := h
    exact (show SoFar ls [] a ∧ Low ls a ∧ 0 ≤ a.v from ⟨soFar_start h, low_least h, Nat.zero_le _⟩)
theorem st_more {ls P : List Ln} {a b : Ln} {sm : Bool} (h : StS ls P a true) (hn : (sm = true ∧ IsNext ls a b ∧ above a b) ∨ (sm = false ∧ ∀ b, IsNext ls a b → ¬ above a b)) : StS ls (P ++ [a]) b sm := by
  have h : SoFar ls P a ∧ Low ls a ∧ P.length ≤ a.v := h
  rcases hn with ⟨rfl, h1, h2⟩ | ⟨rfl, h1⟩
  · refine (show SoFar ls (P ++ [a]) b ∧ Low ls b ∧ (P ++ [a]).length ≤ b.v from ⟨soFar_more h.1 h1 h2, low_next h.2.1 h1, ?_⟩)
    have := h1.2.1.1
    have := h.2.2
    rw [List.length_append, List.length_singleton]
    omega
  · exact (show BSet ls (P ++ [a]) from soFar_stop h.1 h1)
/-- The overhead that a pointer shows. -/
def lastV (v : Value) (W : World) : Nat := match v with | .pointer (some ad) => (intOf ((W.cell? ⟨ad.block, 2, none⟩).getD undef)).toNat | _ => 0
def setM (v4 v5 : Value) (W : World) : Nat := match v5 with | .bool true => 513 - lastV v4 W | _ => 0
theorem setM_no (v4 : Value) (W : World) : setM v4 (.bool false) W = 0 := rfl
theorem setM_at {W : World} {g : Nat} {k : Int} (h : W.cell? ⟨g, 2, none⟩ = some (.int .i64 k)) : setM (.pointer (some ⟨g, 0, none⟩)) (.bool true) W = 513 - k.toNat := by
  unfold setM lastV
  simp only [h]
  rfl
theorem own_far3 {W : World} {base size n g : Nat} {e : TypeId} {v : Value} {xs : List Value} (h : W.ownsRow base e size v n xs) (hg : ∀ k, v.ownBlock = some k → k ≠ g) (y0 y1 y2 : Value) : (((W.setCell ⟨g, 0, none⟩ y0).setCell ⟨g, 1, none⟩ y1).setCell ⟨g, 2, none⟩ y2).ownsRow base e size v n xs := by
  refine ⟨h.1, ?_⟩
  rcases h.2 with h1 | ⟨k, cap, cur, hv, hb, hk, hc⟩
  · exact .inl h1
  · have hne : k ≠ g := hg k (by rw [hv]; rfl)
    refine .inr ⟨k, cap, cur, hv, hb, ?_, hc⟩
    rw [Below.heap_setCell _ ⟨g, 2, none⟩ _ k hne, Below.heap_setCell _ ⟨g, 1, none⟩ _ k hne, Below.heap_setCell _ ⟨g, 0, none⟩ _ k hne]
    exact hk
theorem tup_app {P : List Ln} {a : Ln} (h : ∀ x ∈ P, x.In) (ha : a.In) : ∀ x ∈ P ++ [a], x.In := fun x hx => by
  rcases List.mem_append.1 hx with hx | hx
  · exact h x hx
  · rw [List.mem_singleton] at hx
    rw [hx]; exact ha
theorem bd_next_at {A : Option Addr} {n c : Nat} {l : List Tup} {ao ar av : Nat} {w : World} (h : RT w w.heap.size A n c l) (ha : (⟨ao, ar, av⟩ : Ln).In) (hlow : Low (heldR l) ⟨ao, ar, av⟩) (hn : n ≤ 1000000) :
    Calls Try.prog 47 #[.slice A n c, .agg #[.int .u32 (ao : Int), .int .u64 (ar : Int), .int .i64 (av : Int)]] w (NxtOut (heldR l) ⟨ao, ar, av⟩ w) := bd_next A n c l ⟨ao, ar, av⟩ w h ha hlow hn
set_option maxHeartbeats 8000000 in
theorem bd_set0 (A : Option Addr) (n c : Nat) (l : List Tup) (w : World) (h : RT w w.heap.size A n c l) (hn : n ≤ 1000000) :
    Calls Try.prog 35 #[.slice A n c] w (SetOut l w) := by
  have HR := Lib.hid h
  have HC := Lib.hid (bd_first A n c l w h hn)
  clear h
  go_enter Try.func35, Try.ntmps35
  go_wp2_with fail
  ((with_reducible refine HC.out.mono ?_); rintro e W1 ⟨⟨fo, fr, fv, fs, h1, h2, rfl⟩, b1⟩)
  have HS1 := Lib.hid (st_first h1)
  have HI1 := Lib.hid h2
  have HB1 := Lib.hid b1
  have hx := Blk.new W1 31 #[.int .u32 (fo : Int), .int .u64 (fr : Int), .int .i64 (fv : Int)]
  have hb := b1.trans ((belowA W1 (.cells #[.int .u32 (fo : Int), .int .u64 (fr : Int), .int .i64 (fv : Int)] 31)).mono b1.size)
  have HX : Hid (Blk (W1.alloc (.cells #[.int .u32 (fo : Int), .int .u64 (fr : Int), .int .i64 (fv : Int)] 31)) W1.heap.size 31 #[.int .u32 (fo : Int), .int .u64 (fr : Int), .int .i64 (fv : Int)] ∧ Below w.heap.size w (W1.alloc (.cells #[.int .u32 (fo : Int), .int .u64 (fr : Int), .int .i64 (fv : Int)] 31)) ∧ w.heap.size ≤ W1.heap.size) := Lib.hid ⟨hx, hb, b1.size⟩
  clear h1 h2 b1 hx hb HC
  go_upto_block 0 with (fail)
  generalize W1.alloc (.cells #[.int .u32 (fo : Int), .int .u64 (fr : Int), .int .i64 (fv : Int)] 31) = W2 at HX ⊢
  generalize W1.heap.size = g0 at HX ⊢
  go_wp2_with fail
  go_loopw [3, 4, 5] (fun v3 v4 v5 wr => ∃ (P : List Ln) (a : Ln) (sm : Bool) (g : Nat), v4 = .pointer (some ⟨g, 0, none⟩) ∧ v5 = .bool sm ∧ Hid (OwnTp wr w.heap.size v3 (P.map unT) ∧ Blk wr g 31 #[.int .u32 (a.o : Int), .int .u64 (a.r : Int), .int .i64 (a.v : Int)] ∧ (∀ k, v3.ownBlock = some k → k ≠ g) ∧ Below w.heap.size w wr ∧ w.heap.size ≤ g ∧ StS (heldR l) P a sm ∧ (∀ x ∈ P, x.In) ∧ a.In)) (fun _ v4 v5 wr => setM v4 v5 wr)
  case atStart => exact ⟨[], ⟨fo, fr, fv⟩, fs, g0, rfl, rfl, Lib.hid ⟨OwnTp.nil _ _, HX.out.1, (fun k hk => by cases hk), HX.out.2.1, HX.out.2.2, HS1.out, (fun x hx => by cases hx), HI1.out⟩⟩
  case round =>
    obtain ⟨P, a, sm, g, rfl, rfl, HQ⟩ := hrel
    clear HX HS1 HI1
    obtain ⟨ao, ar, av⟩ := a
    cases sm
    · have HE : Hid (BSet (heldR l) P) := Lib.hid HQ.out.2.2.2.2.2.1
      go_wp2_with fail
      go_ret
      exact ⟨_, P, rfl, HE.out, HQ.out.1, HQ.out.2.2.2.1⟩
    · obtain ⟨Av, cv, hv, _, _⟩ := HQ.out.1.rt (unR_in HQ.out.2.2.2.2.2.2.1)
      subst hv
      obtain ⟨m, hm⟩ : ∃ m, m = (P.map unT).length := ⟨_, rfl⟩
      rw [← hm] at HQ ⊢
      have HM := Lib.hid hm
      have haI : (⟨ao, ar, av⟩ : Ln).In := HQ.out.2.2.2.2.2.2.2
      have HS := Lib.hid HQ.out.2.2.2.2.2.1
      have hm512 : m ≤ 512 := by
        have h1 : SoFar (heldR l) P ⟨ao, ar, av⟩ ∧ Low (heldR l) ⟨ao, ar, av⟩ ∧ P.length ≤ av := HS.out
        have h2 := haI.v
        have h3 := h1.2.2
        simp only at h2
        rw [hm, List.length_map]
        omega
      have HME : Hid (setM (.pointer (some ⟨g, 0, none⟩)) (.bool true) wr = 513 - (av : Int).toNat) := Lib.hid (setM_at (HQ.out.2.1.cell 2))
      have hg := HQ.out.2.1
      have k0 := hg.cell 0
      have k1 := hg.cell 1
      have k2 := hg.cell 2
      have o1 := HQ.out.1.on (belowA wr (.cells #[.int .u32 (ao : Int), .int .u64 (ar : Int), .int .i64 (av : Int)] 31))
      have B1 : Blk (wr.alloc (.cells #[.int .u32 (ao : Int), .int .u64 (ar : Int), .int .i64 (av : Int)] 31)) g 31 #[.int .u32 (ao : Int), .int .u64 (ar : Int), .int .i64 (av : Int)] := ((belowA wr _).block g hg.lt).trans hg
      have r1 : RT (wr.alloc (.cells #[.int .u32 (ao : Int), .int .u64 (ar : Int), .int .i64 (av : Int)] 31)) (wr.heap.size + 1) (some ⟨wr.heap.size, 0, none⟩) 1 1 [unT ⟨ao, ar, av⟩] := one_rt wr (unT ⟨ao, ar, av⟩) (unT_in haI)
      have bw1 := HQ.out.2.2.2.1.trans ((belowA wr (.cells #[.int .u32 (ao : Int), .int .u64 (ar : Int), .int .i64 (av : Int)] 31)).mono HQ.out.2.2.2.1.size)
      have hs1 : w.heap.size ≤ (wr.alloc (.cells #[.int .u32 (ao : Int), .int .u64 (ar : Int), .int .i64 (av : Int)] 31)).heap.size := bw1.size
      have HARM : Hid (∀ v9 w9, (OwnTp w9 w.heap.size v9 ((P.map unT) ++ [unT ⟨ao, ar, av⟩]) ∧ (wr.alloc (.cells #[.int .u32 (ao : Int), .int .u64 (ar : Int), .int .i64 (av : Int)] 31)).grownBy w9 (Value.slice Av m cv).ownBlock) → OwnTp w9 w.heap.size v9 ((P ++ [(⟨ao, ar, av⟩ : Ln)]).map unT) ∧ Blk w9 g 31 #[.int .u32 (ao : Int), .int .u64 (ar : Int), .int .i64 (av : Int)] ∧ Below w.heap.size w w9) := Lib.hid (by
        intro v9 w9 h9
        refine ⟨by rw [List.map_append]; exact h9.1, (h9.2.block g B1.lt (fun e => HQ.out.2.2.1 g e.symm rfl)).trans B1, below_grown bw1 hs1 h9.2 (fun kk hkk => (World.ownsRow.lt o1 kk hkk).1)⟩)
      have HPI := Lib.hid (tup_app HQ.out.2.2.2.2.2.2.1 haI)
      have HAI := Lib.hid haI
      have HGW := Lib.hid HQ.out.2.2.2.2.1
      clear hm hg B1 bw1 HQ haI
      go_wp2_with (at_builtin; go_loud (with_reducible refine wpList_appendTp rfl (.tmp 18) (.tmp 20) rfl rfl w.heap.size (.slice Av m cv) (P.map unT) (by with_unfolding_all rfl) o1 _ _ 1 1 [unT ⟨ao, ar, av⟩] (by with_unfolding_all rfl) r1 (by rw [← HM.out]; omega) hs1 ?_); intro v9 w9 ha9; obtain ⟨o9, B9, bw9⟩ := HARM.out v9 w9 ha9; have n0 := B9.cell 0; have n1 := B9.cell 1; have n2 := B9.cell 2; have H9 := Lib.hid (⟨o9, B9, bw9⟩ : _ ∧ _ ∧ _); clear ha9 o9 B9 bw9 o1 r1 hs1 HARM k0 k1 k2)
      have BN := Blk.new w9 31 #[.int .u32 (ao : Int), .int .u64 (ar : Int), .int .i64 (av : Int)]
      have oN := H9.out.1.on (belowA w9 (.cells #[.int .u32 (ao : Int), .int .u64 (ar : Int), .int .i64 (av : Int)] 31))
      have bN := H9.out.2.2.trans ((belowA w9 (.cells #[.int .u32 (ao : Int), .int .u64 (ar : Int), .int .i64 (av : Int)] 31)).mono H9.out.2.2.size)
      have HN : Hid (OwnTp (w9.alloc (.cells #[.int .u32 (ao : Int), .int .u64 (ar : Int), .int .i64 (av : Int)] 31)) w.heap.size v9 ((P ++ [(⟨ao, ar, av⟩ : Ln)]).map unT) ∧ Blk (w9.alloc (.cells #[.int .u32 (ao : Int), .int .u64 (ar : Int), .int .i64 (av : Int)] 31)) w9.heap.size 31 #[.int .u32 (ao : Int), .int .u64 (ar : Int), .int .i64 (av : Int)] ∧ Below w.heap.size w (w9.alloc (.cells #[.int .u32 (ao : Int), .int .u64 (ar : Int), .int .i64 (av : Int)] 31)) ∧ (∀ k, v9.ownBlock = some k → k ≠ w9.heap.size) ∧ w.heap.size ≤ w9.heap.size) := Lib.hid ⟨oN, BN, bN, fun k hk => Nat.ne_of_lt (World.ownsRow.lt H9.out.1 k hk).2, H9.out.2.2.size⟩
      have HNX := Lib.hid (bd_next_at (HR.out.on bN) HAI.out (show SoFar (heldR l) P ⟨ao, ar, av⟩ ∧ Low (heldR l) ⟨ao, ar, av⟩ ∧ P.length ≤ av from HS.out).2.1 hn)
      clear BN oN bN H9 n0 n1 n2
      go_upto_region 4 with (fail)
      generalize w9.alloc (.cells #[.int .u32 (ao : Int), .int .u64 (ar : Int), .int .i64 (av : Int)] 31) = W4 at HN HNX ⊢
      generalize w9.heap.size = g4 at HN ⊢
      have k0 := HN.out.2.1.cell 0
      have k1 := HN.out.2.1.cell 1
      have k2 := HN.out.2.1.cell 2
      go_wp2_with fail
      ((with_reducible refine HNX.out.mono ?_); rintro e W5 ⟨⟨bo, br, bv, sm2, hx, hbi, rfl⟩, b5⟩)
      have HST := Lib.hid (st_more HS.out hx)
      have HBI := Lib.hid hbi
      have hvv : sm2 = true → av < bv := fun h => by
        rcases hx with ⟨_, h1, _⟩ | ⟨h1, _⟩
        · exact h1.2.1.1
        · rw [h1] at h; cases h
      have HVV := Lib.hid hvv
      have B5 := HN.out.2.1.below b5 HN.out.2.1.lt
      have HP : Hid (OwnTp (((W5.setCell ⟨g4, 0, none⟩ (.int .u32 (bo : Int))).setCell ⟨g4, 1, none⟩ (.int .u64 (br : Int))).setCell ⟨g4, 2, none⟩ (.int .i64 (bv : Int))) w.heap.size v9 ((P ++ [(⟨ao, ar, av⟩ : Ln)]).map unT) ∧ Blk (((W5.setCell ⟨g4, 0, none⟩ (.int .u32 (bo : Int))).setCell ⟨g4, 1, none⟩ (.int .u64 (br : Int))).setCell ⟨g4, 2, none⟩ (.int .i64 (bv : Int))) g4 31 #[.int .u32 (bo : Int), .int .u64 (br : Int), .int .i64 (bv : Int)] ∧ (∀ k, v9.ownBlock = some k → k ≠ g4) ∧ Below w.heap.size w (((W5.setCell ⟨g4, 0, none⟩ (.int .u32 (bo : Int))).setCell ⟨g4, 1, none⟩ (.int .u64 (br : Int))).setCell ⟨g4, 2, none⟩ (.int .i64 (bv : Int))) ∧ w.heap.size ≤ g4) := Lib.hid ⟨own_far3 (HN.out.1.on b5) HN.out.2.2.2.1 _ _ _, blk_put3 B5 _ _ _, HN.out.2.2.2.1, below_put3 (HN.out.2.2.1.trans (b5.mono HN.out.2.2.1.size)) HN.out.2.2.2.2 _ _ _, HN.out.2.2.2.2⟩
      have HM2 : Hid (setM (.pointer (some ⟨g4, 0, none⟩)) (.bool sm2) (((W5.setCell ⟨g4, 0, none⟩ (.int .u32 (bo : Int))).setCell ⟨g4, 1, none⟩ (.int .u64 (br : Int))).setCell ⟨g4, 2, none⟩ (.int .i64 (bv : Int))) < setM (.pointer (some ⟨g, 0, none⟩)) (.bool true) wr) := Lib.hid (by
        rw [HME.out]
        have h511 := HAI.out.v
        simp only at h511
        cases sm2
        · rw [setM_no]; omega
        · have := HVV.out rfl
          rw [setM_at (HP.out.2.1.cell 2)]
          omega)
      replace k0 := B5.cell 0
      replace k1 := B5.cell 1
      replace k2 := B5.cell 2
      have f0 := B5.frozen 0
      have f1 := B5.frozen 1
      have f2 := B5.frozen 2
      clear hx hbi b5 B5 HN HNX hvv
      go_wp2_with fail
      go_roundw
      case rel => exact ⟨P ++ [⟨ao, ar, av⟩], ⟨bo, br, bv⟩, sm2, g4, rfl, rfl, Lib.hid ⟨HP.out.1, HP.out.2.1, HP.out.2.2.1, HP.out.2.2.2.1, HP.out.2.2.2.2, HST.out, HPI.out, HBI.out⟩⟩
      case measure => exact HM2.out
theorem bd_set {A : Option Addr} {n c : Nat} {l : List Tup} {w : World} (h : RT w w.heap.size A n c l) (hn : n ≤ 100000) : Calls Try.prog 35 #[.slice A n c] w (SetOut l w) := bd_set0 A n c l w h (by omega)
end Go.Proofs.Ytfijlgkgbbemnaa
namespace Go.Proofs.Ytfijlgkgbbemnaa
open Go.RowKit
set_option linter.unusedVariables false
set_option linter.unusedSimpArgs false
set_option maxRecDepth 20000

theorem foldR_mem {t : Ln} : ∀ (l : List Ln) (n : Nat), t ∈ l → l.foldl (fun n (t : Ln) => min n t.r) n ≤ t.r
  | x :: r, n, h => by
    rw [List.foldl_cons]
    rcases List.mem_cons.1 h with rfl | h
    · have := foldR_le r (min n t.r)
      omega
    · exact foldR_mem r _ h
theorem foldR_ge {k : Nat} : ∀ (l : List Ln) (n : Nat), k ≤ n → (∀ t ∈ l, k ≤ t.r) → k ≤ l.foldl (fun n (t : Ln) => min n t.r) n
  | [], n, h, _ => h
  | x :: r, n, h, ha => by
    rw [List.foldl_cons]
    exact foldR_ge r _ (by have := ha x List.mem_cons_self; omega) fun t ht => ha t (List.mem_cons_of_mem _ ht)
theorem minR_least {l : List Ln} {a : Ln} (h : IsLeast l a) (ha : a.In) : minR l = a.r := by
  have h1 := foldR_mem l 18446744073709551615 h.1
  have h2 := foldR_ge l 18446744073709551615 (k := a.r) (by have := ha.r; omega) fun t ht => by
    have := h.2 t ht
    unfold fstL at this
    omega
  unfold minR
  omega
theorem rate_ls {ls : List Ln} {sm : Bool} {a : Ln} (h : LsS ls sm a) (ha : a.In) : Value.tuple #[.int .u64 (a.r : Int), .bool sm] = rateV ls := by
  cases sm
  · have h : ls = [] ∧ a = ⟨0, 0, 0⟩ := h
    rw [rateV_no (by rw [h.1]; rfl), h.2]
    rfl
  · have h : IsLeast ls a := h
    rw [rateV_yes (by intro h0; rw [List.eq_nil_of_length_eq_zero h0] at h; cases h.1), minR_least h ha]
theorem bd_rate {A : Option Addr} {n c : Nat} {l : List Tup} {w : World} (h : RT w w.heap.size A n c l) (hn : n ≤ 100000) :
    Calls Try.prog 32 #[.slice A n c] w (AnsB (rateV (heldR l)) w) := by
  have HC := Lib.hid (bd_first A n c l w h (by omega))
  clear h
  go_enter Try.func32, Try.ntmps32
  go_wp2_with fail
  ((with_reducible refine HC.out.mono ?_); rintro e W1 ⟨⟨bo, br, bv, sm, h1, h2, rfl⟩, b1⟩)
  have HV := Lib.hid (rate_ls h1 h2)
  have HB := Lib.hid (b1.trans ((belowA W1 (.cells #[.int .u32 (bo : Int), .int .u64 (br : Int), .int .i64 (bv : Int)] 31)).mono b1.size))
  clear h1 h2 b1 HC
  go_wp2_with fail
  go_ret2
  exact ⟨by rw [← HV.out]; rfl, HB.out⟩
end Go.Proofs.Ytfijlgkgbbemnaa
