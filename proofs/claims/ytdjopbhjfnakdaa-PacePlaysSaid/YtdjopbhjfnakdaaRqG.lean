/- Contract: limelightref9's queue: Go. -/
import Derived.Test.YtdjopbhjfnakdaaRqY
namespace Go.Proofs.Ytdjopbhjfnakdaa
open Go.RowKit
set_option linter.unusedVariables false
set_option linter.unusedSimpArgs false
set_option maxRecDepth 20000

/-- How many wait, told of the memory. -/
def lenAt (w : World) (G : Nat) : Nat := match w.cell? ⟨G, 1, none⟩ with
  | some (.slice _ n _) => n
  | _ => 0
theorem RqAt.len {w : World} {G g' r u l : Nat} {Q : Row8} {cut : Nat} {A : Option Addr} {c : Nat} (h : RqAt w G g' r u l Q cut A c) : lenAt w G = Q.length := by
  unfold lenAt
  rw [h.cells.1.2.1]
/-- What stands while datagrams go. -/
def GoAt (w0 : World) (G g' r u l : Nat) (Q : Row8) (cut : Nat) (A : Option Addr) (v : Value) (W : World) : Prop :=
  ∃ outs rest lv A' c', OwnS W w0.heap.size v outs ∧ RqAt W G g' r u lv rest cut A' c' ∧ outs ++ goO lv rest = goO l Q ∧ goR lv rest = goR l Q ∧ goL lv rest = goL l Q ∧ lv ≤ l ∧ outs.length + rest.length = Q.length ∧ OnlyS (fun k => k = G ∨ k = g') w0 W ∧ (∀ ad, A' = some ad → A = some ad ∨ w0.heap.size ≤ ad.block) ∧ ∀ ad, A' = some ad → v.ownBlock ≠ some ad.block
/-- What Go leaves. -/
def RqGo (G g' r u l : Nat) (Q : Row8) (cut : Nat) (A : Option Addr) (w : World) (e : Ending) (w' : World) : Prop :=
  ∃ Ao no co, e = .returned (.slice Ao no co) ∧ RS w' w'.heap.size Ao no co (goO l Q) ∧ (∀ ad, Ao = some ad → w.heap.size ≤ ad.block) ∧
    ∃ A' c', RqAt w' G g' r u (goL l Q) (goR l Q) cut A' c' ∧ OnlyS (fun k => k = G ∨ k = g') w w' ∧ ∀ ad, A' = some ad → A = some ad ∨ w.heap.size ≤ ad.block
/-- All but the first. -/
def tailO (off c : Nat) : Nat := if c = 1 then off else off + 1
theorem run_tailS (w : World) (b off N c : Nat) (h1 : 1 ≤ N) (hc : N ≤ c) :
    (Instr.slice 45 (.slice (some ⟨b, off, none⟩) N c) (some (.int .i64 1)) none none).run Try.prog w = .ok (.slice (some ⟨b, tailO off c, none⟩) (N - 1) (c - 1)) w := by
  have g1 : (1 : Int) ≤ (N : Int) := by omega
  have hs : (Try.prog.elem 45) = 9 := by simp [Program.elem, Try.underlying45]
  have h3 := run_slice_l (P := Try.prog) w 45 (some ⟨b, off, none⟩) N c (by rw [hs]; exact Try.underlying45) .i64 (1 : Nat) (by omega) (by omega)
  rw [hs] at h3
  obtain ⟨i0, hi0, hz0, hz1, hz2⟩ := info_parts str_info
  have h3 : (Instr.slice 45 (.slice (some ⟨b, off, none⟩) N c) (some (.int .i64 1)) none none).run Try.prog w = _ := h3
  rw [h3]
  unfold tailO
  by_cases hc1 : c = 1
  · have : N = 1 := by omega
    subst hc1
    subst this
    simp [sizeOf, typeInfo, hi0, hz1, sliced, Result.andThen, Addr.add]
  · have hcc : ¬ c - 1 = 0 := by omega
    simp [sizeOf, typeInfo, hi0, hz1, sliced, Result.andThen, Addr.add, hc1, hcc]
theorem run_tailS_at (w : World) (b off N c : Nat) (h1 : 1 ≤ N) (hc : N ≤ c) :
    (Instr.sliceAt 45 (.slice (some ⟨b, off, none⟩) N c) (some (.int .i64 1)) none none).run Try.prog w = .ok (.slice (some ⟨b, tailO off c, none⟩) (N - 1) (c - 1)) w := by
  have hs : (Try.prog.elem 45) = 9 := by simp [Program.elem, Try.underlying45]
  exact (run_sliceAt_slice w 45 _ _ _ _ (by rw [hs]; exact Try.underlying45)).trans (run_tailS w b off N c h1 hc)
theorem RS.tail1 {w : World} {B : Nat} {b off N c : Nat} {x : List UInt8} {R : Row8} (h : RS w B (some ⟨b, off, none⟩) N c (x :: R)) : RS w B (some ⟨b, tailO off c, none⟩) (N - 1) (c - 1) R := by
  have hl : R.length + 1 = N := by have := h.1; simpa using this
  have hc := h.2.2.1
  by_cases h1 : c = 1
  · have hR : R = [] := List.eq_nil_of_length_eq_zero (by omega)
    subst hR
    have : N - 1 = 0 := by simp at hl; omega
    rw [this]
    exact RS.nil _ _ _ _
  · unfold tailO
    rw [if_neg h1]
    obtain ⟨n', rfl⟩ : ∃ n', N = n' + 1 := ⟨N - 1, by omega⟩
    obtain ⟨c', rfl⟩ : ∃ c', c = c' + 1 := ⟨c - 1, by omega⟩
    exact h.tail
set_option maxHeartbeats 8000000 in
theorem ref_qgo (G g' r u l : Nat) (Q : Row8) (cut : Nat) (A : Option Addr) (c : Nat) (w : World) (h : RqAt w G g' r u l Q cut A c) (ok : BkOk r u l) (hQ : Q.length ≤ 16) (hfit : ∀ b ∈ Q, b.length ≤ 100000) :
    Calls Try.prog 19 #[.pointer (some ⟨G, 0, none⟩)] w (RqGo G g' r u l Q cut A w) := by
  have HGo : Hid (GoAt w G g' r u l Q cut A (.slice none 0 0) w) := Lib.hid ⟨[], Q, l, A, c, OwnS.nil _ _, h, rfl, rfl, rfl, Nat.le_refl _, by simp, OnlyS.of (Below.refl _ _), fun ad h => .inl h, fun ad h => (by intro e; cases e)⟩
  have OK := Lib.hid ok
  have HQ := Lib.hid (⟨hQ, hfit, h.blk.lt, BkAt.lt h.bkt⟩ : _ ∧ _ ∧ _ ∧ _)
  clear h ok hQ hfit
  go_enter Try.func19, Try.ntmps19
  go_wp2_with fail
  go_loopw [3] (fun v wr => Hid (GoAt w G g' r u l Q cut A v wr)) (fun _ wr => lenAt wr G)
  case atStart => exact HGo
  case round =>
    obtain ⟨outs, rest, lv, A', c', hown, hq, e1, e2, e3, hlv, hlen, ho, hA, hD⟩ := hrel.out
    have HE := Lib.hid (⟨e1, e2, e3, hlv, hlen, ho, hA⟩ : _ ∧ _ ∧ _ ∧ _ ∧ _ ∧ _ ∧ _)
    have HD := Lib.hid hD
    clear hrel HGo e1 e2 e3 ho hA hD
    obtain ⟨Ao, co, hv, ro, ho'⟩ := hown.rs
    obtain ⟨⟨k0, k1, k2⟩, f1, f2⟩ := hq.cells
    cases rest with
    | nil =>
      have k1 : wr.cell? ⟨G, 1, none⟩ = some (.slice A' 0 c') := k1
      subst hv
      have hob : outs = goO l Q := by have := HE.out.1; simpa [goO] using this
      have hrb : goR l Q = [] := HE.out.2.1.symm
      have hlb : goL l Q = lv := HE.out.2.2.1.symm
      have HP : Hid (∀ k, RqGo G g' r u l Q cut A w (.returned (.slice Ao outs.length co)) (wr.drewN k)) := Lib.hid (fun k => by
        refine ⟨Ao, outs.length, co, rfl, by rw [← hob]; exact ro.on (belowDrewN wr k), ho', A', c', ?_, HE.out.2.2.2.2.2.1.trans (OnlyS.of (S := fun k => k = G ∨ k = g') (belowDrewN wr k)) (fun i hi _ => hi), HE.out.2.2.2.2.2.2⟩
        rw [hlb, hrb]
        exact ⟨(((belowDrewN wr k).block G hq.blk.lt).trans hq.blk), hq.bkt.on (belowDrewN wr k), hq.row.on (belowDrewN wr k), hq.ne⟩)
      obtain ⟨m, hm⟩ : ∃ m, m = outs.length := ⟨_, rfl⟩
      rw [← hm] at HP ⊢
      clear hob hrb hlb HE ro ho' hown hq hlen f1 f2 k0 k2 hm
      go_upto_region 2 with (fail)
      go_quiet (fail)
      go_wp2_with fail
      go_ret
      exact HP.out _
    | cons x R =>
      obtain ⟨b, off, hA', hbl, c0⟩ := hq.row.at (q := 0) (by simp)
      have c0 : wr.cell? ⟨b, off, none⟩ = some (.string (strB x)) := c0
      subst hA'
      subst hv
      obtain ⟨m, hm⟩ : ∃ m, m = outs.length := ⟨_, rfl⟩
      rw [← hm]
      have HM := Lib.hid hm
      clear hm
      obtain ⟨hfar1, hfar2⟩ := hq.far rfl (by simp)
      have hfar1 : b ≠ G := hfar1
      have hfar2 : b ≠ g' := hfar2
      obtain ⟨N, hN⟩ : ∃ N, N = (x :: R).length := ⟨_, rfl⟩
      rw [← hN] at k1
      have HN := Lib.hid hN
      have hN0 : 0 < N := by rw [hN]; simp
      have g1 : decide ((0 : Int) < (N : Int)) = true := by simp; omega
      have g2 : decide (0 < N) = true := by simpa using hN0
      have g3 : (0 : Int) < (N : Int) := by omega
      have hxl : x.length ≤ 100000 := HQ.out.2.1 x (by
        have h1 := HE.out.2.1
        have h2 := HE.out.1
        rw [← go_all l Q, ← h2, ← h1, List.append_assoc, go_all]
        simp)
      have hs := strB_size x
      obtain ⟨X, hX⟩ : ∃ X, X = x.length := ⟨_, rfl⟩
      rw [← hX] at hs hxl
      have y1 : IntKind.i64.wrap ((X : Int) + 28) = (X : Int) + 28 := by rw [IntKind.wrap_i64]; omega
      have okv : BkOk r u lv := ⟨OK.out.rate, OK.out.burst, Nat.le_trans HE.out.2.2.2.1 OK.out.level⟩
      have tk := ref_take g' r u lv ((X : Int) + 28) wr.drew (hq.bkt.on (belowDrewN wr 1)) okv (by unfold I64; omega)
      have tk := tk.mono fun e w' (h : BkOut g' r u (takeL lv ((X : Int) + 28)) (.bool (takeB lv ((X : Int) + 28))) wr.drew e w') => h
      rw [hX] at tk
      rw [take_cost] at tk
      rw [← hX] at tk
      have HX := Lib.hid hX
      have HK := Lib.hid (⟨hq, hbl, ro, ho', hlen⟩ : _ ∧ _ ∧ _ ∧ _ ∧ _)
      have hown := hown.on (belowDrewN wr 1)
      have HOW := Lib.hid hown
      clear hX hq hbl ro ho' hlen okv hN f1 f2 hxl hown
      by_cases hc : costN x * 1000000 ≤ lv
      · rw [decide_eq_true hc] at tk
        have tkl := take_costL x hc
        rw [← HX.out] at tkl
        rw [tkl] at tk
        have HC := Lib.hid hc
        have TK := Lib.hid tk
        clear tkl hc tk
        have c0 : wr.drew.cell? ⟨b, off, none⟩ = some (.string (strB x)) := c0
        go_upto_region 2 with (fail)
        go_still_tail 19, (by kernel_rfl)
        change wpList _ _ _ _ _ wr.drew
        go_wp2_with fail
        refine TK.out.mono ?_
        rintro e W2 ⟨rfl, hb2, o2⟩
        obtain ⟨hq, hbl, ro, ho', hlen⟩ := HK.out
        have hq2 := (hq.on (belowDrewN wr 1)).bucket hb2 o2
        have ow2 := HOW.out.only o2 HQ.out.2.2.2
        obtain ⟨⟨j0, j1, j2⟩, f1, f2⟩ := hq2.cells
        obtain ⟨b', off', hA', hbl2, d0⟩ := hq2.row.at (q := 0) (by simp)
        injection hA' with hA'
        injection hA' with hb' ho2
        subst hb' ho2
        have d0 : W2.cell? ⟨b, off, none⟩ = some (.string (strB x)) := d0
        have hGW := hq2.blk.lt
        rw [← HM.out] at ow2
        rw [← HN.out] at j1
        have hoS : OnlyS (fun k => k = G ∨ k = g') w W2 := (HE.out.2.2.2.2.2.1.trans (OnlyS.of (S := fun k => k = G ∨ k = g') (belowDrewN wr 1)) (fun i hi _ => hi)).trans (OnlyS.one (S := fun k => k = G ∨ k = g') o2 (.inr rfl)) (fun i hi _ => hi)
        have hws := hoS.size
        have HW2 := Lib.hid (⟨hq2, hoS, hlen⟩ : _ ∧ _ ∧ _)
        have HL := Lib.hid (show outs.length + 1 ≤ 1000000 by have := HQ.out.1; omega)
        have owA := ow2.on (belowA W2 (.cells #[.string (strB x)] 9))
        have rsA := one_rs W2 x
        have hwA := Nat.le_trans hws (belowA W2 (.cells #[.string (strB x)] 9)).size
        clear hq hbl ro ho' hlen hb2 o2 hq2 hoS k0 k1 k2 c0 ow2 hbl2 TK
        go_upto_region 4 with (at_builtin; go_loud (with_reducible refine wpList_appendQ rfl (.tmp 25) (.tmp 32) rfl rfl w.heap.size (.slice Ao m co) outs (by with_unfolding_all rfl) owA _ _ 1 1 [x] (by with_unfolding_all rfl) rsA HL.out hwA ?_); intro v9 w9 h9)
        obtain ⟨hq2, hoS, hlen⟩ := HW2.out
        have hd := HD.out ⟨b, off, none⟩ rfl
        rw [← HM.out] at hd
        have hbase : ∀ k, (Value.slice Ao m co).ownBlock = some k → w.heap.size ≤ k := fun k hk => (World.ownsRow.lt owA k hk).1
        have hgr : OnlyS (fun k => some k = (Value.slice Ao m co).ownBlock) (W2.alloc (.cells #[.string (strB x)] 9)) w9 := ⟨h9.2.1.os, h9.2.1.tape, h9.2.1.output, h9.2.1.size, fun k hk hn => h9.2.1.block k hk hn⟩
        have hq9 := (hq2.on (belowA W2 (.cells #[.string (strB x)] 9))).other hgr (fun e => by have := hbase G e.symm; have := HQ.out.2.2.1; omega) (fun e => by have := hbase g' e.symm; have := HQ.out.2.2.2; omega) (fun ad ha _ (e : some ad.block = _) => by
          injection ha with ha
          subst ha
          exact hd e.symm)
        have ho9 : OnlyS (fun k => k = G ∨ k = g') w w9 := (hoS.trans (OnlyS.of (S := fun k => k = G ∨ k = g') (belowA W2 (.cells #[.string (strB x)] 9))) (fun i hi _ => hi)).trans hgr (fun i hi hlt => by exfalso; have := hbase i hi.symm; omega)
        obtain ⟨⟨j0, j1, j2⟩, f1, f2⟩ := hq9.cells
        rw [← HN.out] at j1
        have H9 := Lib.hid (⟨h9, hq9, ho9, hlen, hq9.row.2.2.1⟩ : _ ∧ _ ∧ _ ∧ _ ∧ _)
        have hG9 := hq9.blk.lt
        have hNc : N ≤ c' := by rw [HN.out]; exact hq9.row.2.2.1
        have gN : (1 : Int) ≤ (N : Int) := by omega
        have gN2 : 1 ≤ N := by omega
        have hcut := fun W => run_tailS_at W b off N c' gN2 hNc
        have hcut2 := fun W => run_tailS W b off N c' gN2 hNc
        have RT := (hq9.row.on (belowA w9 (.cells #[] 9)))
        rw [← HN.out] at RT
        have RT := RT.tail1
        obtain ⟨N1, hN1⟩ : ∃ N1, N1 = N - 1 := ⟨_, rfl⟩
        rw [← hN1] at RT
        have hN1i : ∀ W, (Instr.sliceAt 45 (.slice (some ⟨b, off, none⟩) N c') (some (.int .i64 1)) none none).run Try.prog W = .ok (.slice (some ⟨b, tailO off c', none⟩) N1 (c' - 1)) W := fun W => by rw [hN1]; exact hcut W
        have hN1j : ∀ W, (Instr.slice 45 (.slice (some ⟨b, off, none⟩) N c') (some (.int .i64 1)) none none).run Try.prog W = .ok (.slice (some ⟨b, tailO off c', none⟩) N1 (c' - 1)) W := fun W => by rw [hN1]; exact hcut2 W
        clear hcut hcut2
        have hRl : R.length = N1 := by have := HN.out; simp at this; omega
        have HRL := Lib.hid hRl
        have owE := own_empty w9 w.heap.size (ho9.size)
        have hwE := Nat.le_trans ho9.size (belowA w9 (.cells #[] 9)).size
        have HLE := Lib.hid (show ([] : Row8).length + N1 ≤ 1000000 by have := HQ.out.1; simp at hlen ⊢; omega)
        generalize tailO off c' = o2 at hN1i hN1j RT
        generalize c' - 1 = c1 at hN1i hN1j RT
        have HqE := Lib.hid (hq9.on (belowA w9 (.cells #[] 9)))
        have oE : OnlyS (fun k => k = G ∨ k = g') w (w9.alloc (.cells #[] 9)) := ho9.trans (OnlyS.of (S := fun k => k = G ∨ k = g') (belowA w9 (.cells #[] 9))) (fun i hi _ => hi)
        have HOE := Lib.hid (⟨oE, hG9⟩ : _ ∧ _)
        have hoS9 := Lib.hid ho9.size
        have ow9 := h9.1.on (belowA w9 (.cells #[] 9))
        have HW9 := Lib.hid (⟨ow9, (fun k hk => (World.ownsRow.lt h9.1 k hk).2 : ∀ k, v9.ownBlock = some k → k < w9.heap.size)⟩ : _ ∧ _)
        clear hN1 hRl hq2 hoS hd hbase hgr hq9 ho9 h9 owA rsA hwA d0 hws hGW gN gN2 hNc oE ow9
        go_wp2_with (at_builtin; go_loud ((with_reducible refine wpList_appendQ rfl (.tmp 35) (.tmp 40) rfl rfl w.heap.size (.slice (some ⟨w9.heap.size, 0, none⟩) 0 0) [] (by with_unfolding_all rfl) owE _ (some ⟨b, o2, none⟩) N1 c1 R (by with_unfolding_all rfl) RT HLE.out hwE ?_); intro va wa ha; have hwa := below_grown (B := w.heap.size) (Below.refl w.heap.size (w9.alloc (.cells #[] 9))) hwE ha.2.1 (fun k hk => (World.ownsRow.lt owE k hk).1); have bk := (hwa.block G HQ.out.2.2.1).trans HqE.out.blk; have s1 := Blk.cell bk 1; have s2 := Blk.frozen bk 1; have oA := ha.1; rw [List.nil_append] at oA; obtain ⟨A7, c7, e7, r7, h7⟩ := oA.rs; rw [HRL.out] at e7; subst e7))
        have hne9 : v9.ownBlock ≠ some w9.heap.size := fun e => by have := HW9.out.2 _ e; omega
        have hoa : OnlyS (fun k => k = w9.heap.size) (w9.alloc (.cells #[] 9)) wa := ⟨ha.2.1.os, ha.2.1.tape, ha.2.1.output, ha.2.1.size, fun k hk hn => ha.2.1.block k hk (fun e => hn (Option.some.inj e))⟩
        have ov : OwnS wa w.heap.size v9 (outs ++ [x]) := World.ownsRow.kept HW9.out.1 ha.2.1 (.inr hne9)
        have hbk : BkAt wa g' r u (lv - costN x * 1000000) := HqE.out.bkt.onlyS hoa (fun e : g' = w9.heap.size => by have h4 := HQ.out.2.2.2; have h5 := hoS9.out; omega)
        have hq' := RqAt.put1 (base := w.heap.size) bk hbk HqE.out.ne oA HQ.out.2.2.1 HRL.out.symm
        have hov := OwnS.set (i := 1) (x := .slice A7 N1 c7) ov HQ.out.2.2.1
        have hon : OnlyS (fun k => k = G ∨ k = g') w (wa.setCell ⟨G, 1, none⟩ (.slice A7 N1 c7)) := (HOE.out.1.trans hoa (fun i hi hlt => by exfalso; have := hoS9.out; omega)).trans (OnlyS.one (S := fun k => k = G ∨ k = g') (Only.set G 1 wa (.slice A7 N1 c7)) (.inl rfl)) (fun i hi _ => hi)
        have hdd : ∀ ad, A7 = some ad → v9.ownBlock ≠ some ad.block := fun ad hA e => by
          subst hA
          have h1 := HW9.out.2 _ e
          rcases ha.2.2.2 with h2 | h2
          · have h2 : some ad.block = some w9.heap.size := h2
            injection h2 with h2
            omega
          · have h2 : some ad.block = some (w9.alloc (.cells #[] 9)).heap.size := h2
            injection h2 with h2
            have h3 := (belowA w9 (.cells #[] 9)).size
            omega
        have HN2 := Lib.hid (⟨outs ++ [x], R, lv - costN x * 1000000, A7, c7, hov, hq', by rw [← HE.out.1, List.append_assoc, (go_yes HC.out).1]; rfl, by rw [← HE.out.2.1, (go_yes HC.out).2.1], by rw [← HE.out.2.2.1, (go_yes HC.out).2.2], Nat.le_trans (Nat.sub_le _ _) HE.out.2.2.2.1, by rw [List.length_append, List.length_singleton, ← HE.out.2.2.2.2.1, List.length_cons]; omega, hon, fun ad hA => .inr (h7 ad hA), hdd⟩ : GoAt w G g' r u l Q cut A v9 (wa.setCell ⟨G, 1, none⟩ (.slice A7 N1 c7)))
        have hm1 := hq'.len
        have hm2 := HK.out.1.len
        go_roundw
        case rel => exact HN2
        case measure => rw [hm1, hm2, List.length_cons]; omega
      · rw [decide_eq_false hc] at tk
        have tkl := take_costN x hc
        rw [← HX.out] at tkl
        rw [tkl] at tk
        have HC := Lib.hid hc
        have TK := Lib.hid tk
        clear tkl hc tk
        have c0 : wr.drew.cell? ⟨b, off, none⟩ = some (.string (strB x)) := c0
        go_upto_region 2 with (fail)
        go_still_tail 19, (by kernel_rfl)
        change wpList _ _ _ _ _ wr.drew
        go_wp2_with fail
        refine TK.out.mono ?_
        rintro e W2 ⟨rfl, hb2, o2⟩
        obtain ⟨hq, hbl, ro, ho', hlen⟩ := HK.out
        have hq2 := (hq.on (belowDrewN wr 1)).bucket hb2 o2
        have ow2 := HOW.out.only o2 HQ.out.2.2.2
        have hoS : OnlyS (fun k => k = G ∨ k = g') w W2 := (HE.out.2.2.2.2.2.1.trans (OnlyS.of (S := fun k => k = G ∨ k = g') (belowDrewN wr 1)) (fun i hi _ => hi)).trans (OnlyS.one (S := fun k => k = G ∨ k = g') o2 (.inr rfl)) (fun i hi _ => hi)
        obtain ⟨Ao2, co2, hv2, ro2, ho2⟩ := ow2.rs
        injection hv2 with hv2 _ hv3
        subst hv2 hv3
        have hob : outs = goO l Q := by have := HE.out.1; rw [(go_no HC.out).1, List.append_nil] at this; exact this
        have hrb : goR l Q = x :: R := by rw [← HE.out.2.1, (go_no HC.out).2.1]
        have hlb : goL l Q = lv := by rw [← HE.out.2.2.1, (go_no HC.out).2.2]
        have HP : Hid (RqGo G g' r u l Q cut A w (.returned (.slice Ao m co)) W2) := Lib.hid (by
          refine ⟨Ao, m, co, rfl, by rw [HM.out, ← hob]; exact ro2, ho2, some ⟨b, off, none⟩, c', ?_, hoS, HE.out.2.2.2.2.2.2⟩
          rw [hlb, hrb]
          exact hq2)
        clear hq hbl ro ho' hlen hb2 o2 hq2 ow2 hoS ro2 ho2 hob hrb hlb
        go_wp2_with fail
        go_ret
        exact HP.out
end Go.Proofs.Ytdjopbhjfnakdaa
