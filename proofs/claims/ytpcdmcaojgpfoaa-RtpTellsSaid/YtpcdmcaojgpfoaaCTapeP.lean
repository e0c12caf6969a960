/- Contract: (*limelightkeep.Tape).Rtp. -/
import Derived.Test.YtpcdmcaojgpfoaaPEnd
import Derived.Test.YtpcdmcaojgpfoaaCR3Elems
import Derived.Test.YtpcdmcaojgpfoaaCR3Right
import Derived.Handy
namespace Go.Proofs.Ytpcdmcaojgpfoaa
open Go.RowKit
set_option linter.unusedVariables false
set_option linter.unusedSimpArgs false
set_option maxRecDepth 20000

/-- While a tape is read: the packet stays as it is, and so does all but the tape's block. -/
def tapeF (g : Nat) (w : World) (R L base : Nat) (p : Pkt) (u : Value) (A2 : Option Addr) (c2 : Nat) (A3 : Option Addr) (c3 : Nat) : Frame where
  I := fun W => PMem g w W R L base p u A2 c2 A3 c3
  Fr := fun a b => a.heap.size ≤ b.heap.size ∧ ∀ k, k < a.heap.size → k ≠ g → b.heap[k]? = a.heap[k]?
  refl := fun w _ => ⟨Nat.le_refl _, fun _ _ _ => rfl⟩
  trans := fun a b c h k => ⟨Nat.le_trans h.1 k.1, fun i hi hne => (k.2 i (by omega) hne).trans (h.2 i hi hne)⟩
  drew := fun W h => ⟨h.on (below_drewN _ W 1), Nat.le_refl _, fun _ _ _ => rfl⟩
def wordC {F : Frame} : ClF F := .pred (fun v _ => ∃ x : Nat, x < 4294967296 ∧ v = wv x) (fun _ _ _ _ _ _ h => h)
theorem word_of {F : Frame} {c : ClF F} {v : Value} {w : World} (h : c.holds v w) (e : c = wordC) : ∃ x : Nat, x < 4294967296 ∧ v = wv x := by
  subst e
  exact h
/-- A new slice of one word. -/
def oneC (g : Nat) (w : World) (R L base : Nat) (p : Pkt) (u : Value) (A2 : Option Addr) (c2 : Nat) (A3 : Option Addr) (c3 : Nat) : ClF (tapeF g w R L base p u A2 c2 A3 c3) :=
  .pred (fun v W => ∃ (b : Nat) (x : Nat), x < 4294967296 ∧ v = .slice (some ⟨b, 0, none⟩) 1 1 ∧ b < W.heap.size ∧ W.cell? ⟨b, 0, none⟩ = some (wv x)) (fun v a b hI hf hb ⟨q, x, h1, h2, h3, h4⟩ => ⟨q, x, h1, h2, (by have := hf.1; omega), (by
    have hne : q ≠ g := fun e => (by subst e; exact hI.moves.tape.no32 h4)
    rw [← h4]
    exact World.cell?_of_block (hf.2 q h3 hne))⟩)
theorem one_of {g : Nat} {w : World} {R L base : Nat} {p : Pkt} {u : Value} {A2 : Option Addr} {c2 : Nat} {A3 : Option Addr} {c3 : Nat} {c : ClF (tapeF g w R L base p u A2 c2 A3 c3)} {v : Value} {W : World} (h : c.holds v W) (e : c = oneC g w R L base p u A2 c2 A3 c3) :
    ∃ (b : Nat) (x : Nat), x < 4294967296 ∧ v = .slice (some ⟨b, 0, none⟩) 1 1 ∧ b < W.heap.size ∧ W.cell? ⟨b, 0, none⟩ = some (wv x) := by
  subst e
  exact h
theorem elemsB_ok (prof : Nat) {two : Bool} {E : List El} (h1 : E.length ≤ 3) (h2 : ∀ e ∈ E, ElIn two e) : okExt (elemsB prof E) := by
  have key : ∀ (one : Bool) (F : List El), (∀ e ∈ F, ElIn two e) → (elBs one F).length ≤ 22 * F.length := fun one F => by
    induction F with
    | nil => intro _; simp [elBs]
    | cons x r ih =>
      intro hF
      have h3 := ih fun e he => hF e (List.mem_cons_of_mem _ he)
      have h4 := (hF x (by simp)).2.2.1
      have e1 : elBs one (x :: r) = elB one x ++ elBs one r := by simp [elBs]
      rw [e1, List.length_append, List.length_cons]
      unfold elB
      cases one <;> simp <;> omega
  unfold elemsB
  by_cases he : elemsErr prof E = 0
  · rw [if_pos he]
    have hk := key (isOne prof) E h2
    unfold okExt padL padN
    rw [List.length_append, List.length_replicate]
    simp only [show (1 : Int) ≤ 4 ∧ (4 : Int) ≤ 64 by omega, and_self, if_true, show (4 : Int).toNat = 4 by rfl]
    omega
  · rw [if_neg he]
    exact ⟨rfl, Nat.zero_le _⟩
set_option maxHeartbeats 4000000 in
theorem tape_rtp_new (g : Nat) (w : World) (hT : TapeAt w g) :
    Calls Try.prog 9 #[.pointer (some ⟨g, 0, none⟩)] w (RtpNew g w) := by
  have hg := hT.lt
  have hal := (Below.refl w.heap.size w).alloc (Nat.le_refl _) (.cells #[.bool false, .int .i64 0, .int .u16 0, .int .u32 0, .int .u32 0, .slice none 0 0, .int .u16 0, .slice none 0 0, .slice none 0 0] 28)
  have hT0 := hT.on hal
  go_enter Try.func9, Try.ntmps9
  go_wp2_with fail
  refine (next_any g 2 _ hT0 (by unfold I64; omega)).mono ?_
  rintro e w1 ⟨r1, rfl, h1a, h1b, hm1⟩
  go_wp2_with fail
  refine (next_any g 128 _ hm1.tape (by unfold I64; omega)).mono ?_
  rintro e w2 ⟨r2, rfl, h2a, h2b, hm2⟩
  go_wp2_with fail
  refine (next_any g 65536 _ hm2.tape (by unfold I64; omega)).mono ?_
  rintro e w3 ⟨r3, rfl, h3a, h3b, hm3⟩
  go_wp2_with fail
  refine (tape_word g _ hm3.tape).mono ?_
  rintro e w4 ⟨t4, rfl, h4, hm4⟩
  go_wp2_with fail
  refine (tape_word g _ hm4.tape).mono ?_
  rintro e w5 ⟨t5, rfl, h5, hm5⟩
  go_wp2_with fail
  refine (tape_bytes g 30 _ hm5.tape (by omega)).mono ?_
  rintro e w6 ⟨A6, c6, pay, rfl, h6, hR6, hm6, hA6⟩
  go_wp2_with fail
  obtain ⟨ty, rfl⟩ := Int.eq_ofNat_of_zero_le h2a
  obtain ⟨seq, rfl⟩ := Int.eq_ofNat_of_zero_le h3a
  have hm16 : Moves g w w6 := (((((((Moves.of hT hal).trans hm1).trans hm2).trans hm3).trans hm4).trans hm5).trans hm6)
  have hres0 : (w.alloc (.cells zeroP 28)).heap[w.heap.size]? = some (.cells zeroP 28 (0, 0)) := Blk.new _ _ _
  have hwl : w.heap.size < (w.alloc (.cells zeroP 28)).heap.size := by simp
  have hm06 : Moves g (w.alloc (.cells zeroP 28)) w6 := ((((hm1.trans hm2).trans hm3).trans hm4).trans hm5).trans hm6
  have hres6 := (hm06.other w.heap.size hwl (by omega)).trans hres0
  have hw6 : w.heap.size < w6.heap.size := Nat.lt_of_lt_of_le hwl hm06.below.size
  have hal6 := (Below.refl w6.heap.size w6).alloc (Nat.le_refl _) (.cells (pcells ⟨r1 == 0, ty, seq, t4, t5, [], 0, [], pay⟩ (.slice none 0 0) none 0 A6 c6) 28)
  have hP : PMem g w (w6.alloc (.cells (pcells ⟨r1 == 0, ty, seq, t4, t5, [], 0, [], pay⟩ (.slice none 0 0) none 0 A6 c6) 28)) w.heap.size w6.heap.size (w6.heap.size + 1) ⟨r1 == 0, ty, seq, t4, t5, [], 0, [], pay⟩ (.slice none 0 0) none 0 A6 c6 :=
    ⟨(hal6.block _ hw6).trans hres6, Blk.new _ _ _, Own32.nil _ _, R8.nil _ _ _ _, hR6.on hal6, fun ad hA => (by cases hA), fun ad hA => ⟨by have := hA6 ad hA; omega, by simp [Value.ownBlock], by have := hA6 ad hA; simp; omega⟩, hm16.and hg (hal6.mono (by omega)), hg, Nat.le_refl _, hw6, by omega, by simp⟩
  clear hm1 hm2 hm3 hm4 hm5 hm6 hm16 hres0 hwl hm06 hres6 hal6 hR6 hA6 hT0 hal
  have e6 : (w6.alloc (.cells #[.bool (r1 == 0), .int .i64 (ty : Int), .int .u16 (seq : Int), .int .u32 (t4 : Int), .int .u32 (t5 : Int), .slice none 0 0, .int .u16 0, .slice none 0 0, .slice A6 pay.length c6] 28)) = (w6.alloc (.cells (pcells ⟨r1 == 0, ty, seq, t4, t5, [], 0, [], pay⟩ (.slice none 0 0) none 0 A6 c6) 28)) := rfl
  rw [e6]
  clear e6
  revert hP
  generalize w6.alloc (.cells (pcells ⟨r1 == 0, ty, seq, t4, t5, [], 0, [], pay⟩ (.slice none 0 0) none 0 A6 c6) 28) = W
  revert hw6
  generalize w6.heap.size = L
  intro hw6 hP
  refine (next_any g 4 _ hP.moves.tape (by unfold I64; omega)).mono ?_
  rintro e w7 ⟨r7, rfl, h7a, h7b, hm7⟩
  have hP7 := hP.step hm7
  clear hP hm7
  obtain ⟨k7, rfl⟩ := Int.eq_ofNat_of_zero_le h7a
  go_wp2_with fail
  go_loopw [4] (fun i wr => ∃ (k : Nat) (l : List Nat) (u : Value), i = .int .i64 (k : Int) ∧ l.length + k ≤ 3 ∧ (∀ x ∈ l, x < 4294967296) ∧ PMem g w wr w.heap.size L (L + 1) ⟨r1 == 0, ty, seq, t4, t5, l, 0, [], pay⟩ u none 0 A6 c6) (fun i _ => (intOf i).toNat)
  case atStart => exact ⟨k7, [], _, rfl, by simp; omega, by simp, hP7⟩
  case round =>
    obtain ⟨k, l, u, rfl, hl, hw, hP⟩ := hrel
    by_cases hk : 0 < k
    · have hk' : (0 : Int) < (k : Int) := by omega
      go_upto_region 5 with (fail)
      obtain ⟨Au, cu, rfl, _⟩ := hP.own.r32 hw
      refine wp_region_ft (F := tapeF g w w.heap.size L (L + 1) ⟨r1 == 0, ty, seq, t4, t5, l, 0, [], pay⟩ (.slice Au l.length cu) none 0 A6 c6) 5
        [.val (.pointer (some ⟨L, 5, none⟩)), .val (.slice Au l.length cu), .val (.pointer (some ⟨g, 0, none⟩)), wordC,
          oneC g w w.heap.size L (L + 1) ⟨r1 == 0, ty, seq, t4, t5, l, 0, [], pay⟩ (.slice Au l.length cu) none 0 A6 c6]
        (by kernel_rfl) (by kernel_rfl) (by kernel_rfl) (by decide) (by kernel_rfl) hP (AllOblF.upto ⟨?_, ?_, ?_, ?_, ?_, trivial⟩) ?_
      · refine OblF.pure rfl (.pointer (some ⟨L, 5, none⟩)) (by kernel_rfl) rfl fun ev W hI hf hx => ?_
        have e3 : ev (.tmp 3) = .pointer (some ⟨L, 0, none⟩) := holds_valF (hx (.tmp 3)) (by kernel_rfl)
        simp [execOp, e3, go_sem]
      · refine OblF.pure rfl (.slice Au l.length cu) (by kernel_rfl) rfl fun ev W hI hf hx => ?_
        have e3 : ev (.tmp 26) = .pointer (some ⟨L, 5, none⟩) := holds_valF (hx (.tmp 26)) (by kernel_rfl)
        have c5 := hI.cells.2.2.2.2.2.1
        simp [execOp, e3, go_sem, c5]
      · exact OblF.move rfl _ (Or.inl rfl) (by kernel_rfl) rfl
      · refine OblF.call rfl 31 #[.tmp 28] _ rfl Try.f31 Try.func31 (by kernel_rfl) (by kernel_rfl) rfl fun ev W hI hf hx => ?_
        have e3 : ev (.tmp 28) = .pointer (some ⟨g, 0, none⟩) := holds_valF (hx (.tmp 28)) (by kernel_rfl)
        simp only [List.map_toArray, List.map_cons, List.map_nil, e3]
        refine (tape_word g W hI.moves.tape).mono ?_
        rintro e W' ⟨x, rfl, hx, hm⟩
        exact ⟨_, rfl, hI.step hm, ⟨hm.below.size, fun k hk hne => hm.other k hk hne⟩, x, hx, rfl⟩
      · refine OblF.step rfl fun ev W hI hf hx => ?_
        obtain ⟨x, hx4, e3⟩ : ∃ x : Nat, x < 4294967296 ∧ ev (.tmp 29) = wv x := word_of (hx (.tmp 29)) (by kernel_rfl)
        refine ⟨.slice (some ⟨W.heap.size, 0, none⟩) 1 1, W.alloc (.cells #[wv x] 24), ?_, ?_, ?_, ?_⟩
        · simp [execOp, e3, go_sem, wv]
        · exact hI.on ((Below.refl _ W).alloc (Nat.le_refl _) _)
        · have hb := (Below.refl W.heap.size W).alloc (Nat.le_refl _) (.cells #[wv x] 24)
          exact ⟨hb.size, fun k hk _ => hb.block k hk⟩
        · exact ⟨W.heap.size, x, hx4, rfl, by simp, (Blk.new W 24 #[wv x]).cell 0⟩
      intro a W hI hf hsz hdf hold hv
      have v26 : a.tmps.getD 26 undef = .pointer (some ⟨L, 5, none⟩) := holds_valF (hv 0 (by decide)) (by kernel_rfl)
      have v27 : a.tmps.getD 27 undef = .slice Au l.length cu := holds_valF (hv 1 (by decide)) (by kernel_rfl)
      have v28 : a.tmps.getD 28 undef = .pointer (some ⟨g, 0, none⟩) := holds_valF (hv 2 (by decide)) (by kernel_rfl)
      obtain ⟨b, x, hx4, v30, hbW, hcell⟩ := one_of (hv 4 (by decide)) (by kernel_rfl)
      have v30' : a.tmps.getD 30 undef = .slice (some ⟨b, 0, none⟩) 1 1 := v30
      have ha := act_puts [26, 27, 28, 29, 30, 31, 32] (by kernel_rfl) hsz hdf hold
      simp only [putAll, v26, v27, v28, v30'] at ha
      generalize a.tmps.getD 29 undef = x29 at ha
      generalize a.tmps.getD 31 undef = x31 at ha
      generalize a.tmps.getD 32 undef = x32 at ha
      clear v26 v27 v28 v30 v30' hv hold hsz hdf
      subst ha
      simp only [List.toList_toArray, List.drop_succ_cons, List.drop_zero, Act.put, List.setIfInBounds_toArray, List.set_cons_succ, List.set_cons_zero]
      have hP9 : PMem g w W w.heap.size L (L + 1) ⟨r1 == 0, ty, seq, t4, t5, l, 0, [], pay⟩ (.slice Au l.length cu) none 0 A6 c6 := hI
      clear hI hf hP
      have hwx : ∀ y ∈ l ++ [x], y < 4294967296 := fun y hy => by
        rcases List.mem_append.1 hy with hy | hy
        · exact hw y hy
        · rw [List.mem_singleton.1 hy]
          exact hx4
      have hone : ∀ j u, [wv x][j]? = some u → W.cell? ((⟨b, 0, none⟩ : Addr).add j) = some u := fun j u hj => by
        match j, hj with
        | 0, hj =>
          simp at hj
          subst hj
          simpa [Addr.add] using hcell
      go_wp2_with (at_builtin; ((with_reducible refine wpList_appendG rfl (.tmp 27) (.tmp 30) 25 25 24 rfl rfl _ 1 4 Try.underlying25 u32_info rfl (by decide) (L + 1) (.slice Au l.length cu) l.length (l.map wv) (by with_unfolding_all rfl) (by with_unfolding_all exact hP9.own) (⟨b, 0, none⟩) 1 1 [wv x] (by with_unfolding_all rfl) rfl hone (one_word_cell x) (by simp only [maxLen]; omega) (by omega) hP9.ord.2.2.2.2 ?_); intro v9 w9 ha9; have hA := hP9.app ha9; obtain ⟨A9, c9, rfl, _⟩ := hA.2.2.1.r32 hwx; have d5 : w9.cell? ⟨L, 5, none⟩ = some (.slice Au l.length cu) := (by simp [World.cell?, hA.2.1, pcells]); have f5 : w9.frozen? ⟨L, 5, none⟩ = false := (by simp [World.frozen?, hA.2.1])))
      have hP10 := hP9.push ha9
      simp only [List.length_append, List.length_cons, List.length_nil, Nat.zero_add] at hP10
      go_roundw
      case rel => exact ⟨k - 1, l ++ [x], _, by congr 1; omega, by simp; omega, hwx, hP10⟩
      case measure => simp [intOf]; omega
    · have hk' : ¬ (0 : Int) < (k : Int) := by omega
      obtain ⟨Au, cu, rfl, _⟩ := hP.own.r32 hw
      have hE := hP.end_ hw
      clear hP
      have hl3 : l.length ≤ 3 := by omega
      go_wp2_with fail
      refine (next_any g 4 _ hE.moves.tape (by unfold I64; omega)).mono ?_
      rintro e w8 ⟨s, rfl, hs0, hs1, hm8⟩
      have hE8 := hE.step hm8
      clear hE hm8
      obtain ⟨k0, k1, k2, k3, k4, k5, k6, k7', k8⟩ := hE8.cells
      have s6 := hE8.soft 6
      have s7 := hE8.soft 7
      have hp0 : okExt [] := ⟨rfl, Nat.zero_le _⟩
      by_cases hs : s = 0
      · have g0 : (s == 0) = true := by simp [hs]
        clear hs
        have hA8 : PAny g w (w8.setCell ⟨L, 6, none⟩ (.int .u16 48862)) w.heap.size L ⟨r1 == 0, ty, seq, t4, t5, l, 48862, [], pay⟩ Au cu A6 c6 := ⟨none, 0, [], hp0, hE8.set 6 _ rfl rfl hE8.ext rfl⟩
        go_upto_region 9 with (fail)
        clear k0 k1 k2 k3 k4 k5 k6 k7' k8 s6 s7 hE8
        generalize w8.setCell ⟨L, 6, none⟩ (.int .u16 48862) = V at hA8 ⊢
        refine wp_region_f (F := endF g w w.heap.size L ⟨r1 == 0, ty, seq, t4, t5, l, 48862, [], pay⟩ Au cu A6 c6)
          [.val (.pointer (some ⟨L, 6, none⟩)), .val (.int .u16 48862), .val (.pointer (some ⟨g, 0, none⟩)), elC g w w.heap.size L ⟨r1 == 0, ty, seq, t4, t5, l, 48862, [], pay⟩ Au cu A6 c6 false, tupC g w w.heap.size L ⟨r1 == 0, ty, seq, t4, t5, l, 48862, [], pay⟩ Au cu A6 c6, tupC g w w.heap.size L ⟨r1 == 0, ty, seq, t4, t5, l, 48862, [], pay⟩ Au cu A6 c6, extC g w w.heap.size L ⟨r1 == 0, ty, seq, t4, t5, l, 48862, [], pay⟩ Au cu A6 c6, .any, .val (.pointer (some ⟨L, 7, none⟩)), .any]
          (by kernel_rfl) (by kernel_rfl) (by kernel_rfl) hA8 (AllOblF.all ⟨?_, ?_, ?_, ?_, ?_, ?_, ?_, ?_, ?_, ?_, trivial⟩) ?_
        · refine OblF.pure rfl (.pointer (some ⟨L, 6, none⟩)) (by kernel_rfl) rfl fun ev W hI hf hx => ?_
          have e3 : ev (.tmp 3) = .pointer (some ⟨L, 0, none⟩) := holds_valF (hx (.tmp 3)) (by kernel_rfl)
          simp [execOp, e3, go_sem]
        · refine OblF.pure rfl (.int .u16 48862) (by kernel_rfl) rfl fun ev W hI hf hx => ?_
          have e3 : ev (.tmp 39) = .pointer (some ⟨L, 6, none⟩) := holds_valF (hx (.tmp 39)) (by kernel_rfl)
          obtain ⟨A2, c2, ext, _, hE⟩ := hI
          have c5 := hE.cells.2.2.2.2.2.2.1
          simp [execOp, e3, go_sem, c5]
        · exact OblF.move rfl _ (Or.inl rfl) (by kernel_rfl) rfl
        · refine OblF.call rfl 19 #[.tmp 41, .const (.bool false)] _ rfl Try.f19 Try.func19 (by kernel_rfl) (by kernel_rfl) rfl fun ev W hI hf hx => ?_
          have e3 : ev (.tmp 41) = .pointer (some ⟨g, 0, none⟩) := holds_valF (hx (.tmp 41)) (by kernel_rfl)
          have e4 : ev (.const (.bool false)) = .bool false := holds_valF (hx (.const (.bool false))) (by kernel_rfl)
          simp only [List.map_toArray, List.map_cons, List.map_nil, e3, e4]
          refine (tape_elems g false W (PAny.tape hI)).mono ?_
          rintro e W' ⟨A, c, E, rfl, h1, h2, h3, hm⟩
          exact ⟨_, rfl, PAny.step hI hm, hm.same2, A, c, E, rfl, h1, h2, h3⟩
        · refine OblF.call rfl 21 #[.tmp 40, .tmp 42] _ rfl Try.f21 Try.func21 (by kernel_rfl) (by kernel_rfl) rfl fun ev W hI hf hx => ?_
          have e3 : ev (.tmp 40) = .int .u16 48862 := holds_valF (hx (.tmp 40)) (by kernel_rfl)
          obtain ⟨A, c, E, e4, h1, h2, h3⟩ := el_of (two := false) (hx (.tmp 42)) (by kernel_rfl)
          simp only [List.map_toArray, List.map_cons, List.map_nil, e3, e4]
          refine (ref_elems 48862 A _ c E W (by omega) h3 (by omega) (fun e he => by have := (h2 e he).2.2.1; omega)).mono ?_
          rintro e W' ⟨A', c', rfl, hr, hb⟩
          have hm := Moves.of (PAny.tape hI) hb
          exact ⟨_, rfl, PAny.step hI hm, hm.same2, A', c', _, _, rfl, elemsB_ok _ h1 h2, hr⟩
        · exact OblF.move rfl _ (Or.inl rfl) (by kernel_rfl) rfl
        · refine OblF.step rfl fun ev W hI hf hx => ?_
          obtain ⟨A, c, l', k', e3, h1, h2⟩ := tup_of (hx (.tmp 38)) (by kernel_rfl)
          exact ⟨.slice A l'.length c, W, by simp [execOp, e3, go_sem], hI, (endF g w w.heap.size L ⟨r1 == 0, ty, seq, t4, t5, l, 48862, [], pay⟩ Au cu A6 c6).refl _ hI, A, c, l', rfl, h1, h2⟩
        · refine OblF.step rfl fun ev W hI hf hx => ?_
          obtain ⟨A, c, l', k', e3, h1, h2⟩ := tup_of (hx (.tmp 38)) (by kernel_rfl)
          exact ⟨.int .i64 k', W, by simp [execOp, e3, go_sem], hI, (endF g w w.heap.size L ⟨r1 == 0, ty, seq, t4, t5, l, 48862, [], pay⟩ Au cu A6 c6).refl _ hI, trivial⟩
        · refine OblF.pure rfl (.pointer (some ⟨L, 7, none⟩)) (by kernel_rfl) rfl fun ev W hI hf hx => ?_
          have e3 : ev (.tmp 3) = .pointer (some ⟨L, 0, none⟩) := holds_valF (hx (.tmp 3)) (by kernel_rfl)
          simp [execOp, e3, go_sem]
        · refine OblF.store rfl rfl fun ev W hI hf hx => ?_
          have e3 : ev (.tmp 46) = .pointer (some ⟨L, 7, none⟩) := holds_valF (hx (.tmp 46)) (by kernel_rfl)
          obtain ⟨A, c, l', e4, h1, h2⟩ := ext_of (hx (.tmp 44)) (by kernel_rfl)
          have hI' : PAny g w W w.heap.size L ⟨r1 == 0, ty, seq, t4, t5, l, 48862, [], pay⟩ Au cu A6 c6 := hI
          obtain ⟨A2, c2, ext, h3, hE⟩ := hI'
          have c7 := hE.cells.2.2.2.2.2.2.2.1
          have f7 := hE.soft 7
          refine ⟨W.setCell ⟨L, 7, none⟩ (.slice A l'.length c), ?_, ⟨A, c, l', h1, hE.set (p' := ⟨r1 == 0, ty, seq, t4, t5, l, 48862, l', pay⟩) 7 _ rfl rfl h2 rfl⟩, ⟨((Below.refl 0 W).setCell (p := ⟨L, 7, none⟩) (Nat.zero_le _) _).size, fun k _ _ hk => Below.heap_setCell _ _ _ _ hk⟩, trivial⟩
          simp [execOp, e3, e4, go_sem, c7, f7]
        intro a W hI hf hsz hdf hold hv
        have ha := act_puts [39, 40, 41, 42, 43, 38, 44, 45, 46] (by kernel_rfl) hsz hdf hold
        simp only [putAll] at ha
        generalize a.tmps.getD 39 undef = x39 at ha
        generalize a.tmps.getD 40 undef = x40 at ha
        generalize a.tmps.getD 41 undef = x41 at ha
        generalize a.tmps.getD 42 undef = x42 at ha
        generalize a.tmps.getD 43 undef = x43 at ha
        generalize a.tmps.getD 38 undef = x38 at ha
        generalize a.tmps.getD 44 undef = x44 at ha
        generalize a.tmps.getD 45 undef = x45 at ha
        generalize a.tmps.getD 46 undef = x46 at ha
        have hI' : PAny g w W w.heap.size L ⟨r1 == 0, ty, seq, t4, t5, l, 48862, [], pay⟩ Au cu A6 c6 := hI
        clear hv hold hsz hdf hI hf
        subst ha
        simp only [Act.put, List.setIfInBounds_toArray, List.set_cons_succ, List.set_cons_zero]
        obtain ⟨A2, c2, ext, hok, hE⟩ := hI'
        obtain ⟨k0, k1, k2, k3, k4, k5, k6, k7', k8⟩ := hE.cells
        simp only at k0 k1 k2 k3 k4 k5 k6 k7' k8
        obtain ⟨q0, q1, q2, q3, q4, q5, q6, q7, q8⟩ := hE.rcells
        have s0 := hE.rsoft 0
        have s1 := hE.rsoft 1
        have s2 := hE.rsoft 2
        have s3 := hE.rsoft 3
        have s4 := hE.rsoft 4
        have s5 := hE.rsoft 5
        have s6 := hE.rsoft 6
        have s7 := hE.rsoft 7
        have s8 := hE.rsoft 8
        go_wp2_with fail
        obtain ⟨WF, eF, hfin, y0, y1, y2, y3, y4, y5, y6, y7, y8⟩ := hE.final ⟨by show I64 (ty : Int); unfold I64; omega, by simp only; omega, by simp only; omega, by simp only; omega, by simp only; omega, by simp only; omega, by simp only; have := hok.2; omega, by simp only; omega⟩ (right_ok (by simp only; omega) (by simp only; omega) (by simp only; omega) hok.1 hok.2 (by simp only; omega) (by intro h; cases h)) (by simp only; omega) (by simp only; omega) hok.2
        have eW : (((((((((W.setCell ⟨w.heap.size, 0, none⟩ (.bool (r1 == 0))).setCell ⟨w.heap.size, 1, none⟩ (.int .i64 (ty : Int))).setCell ⟨w.heap.size, 2, none⟩ (.int .u16 (seq : Int))).setCell ⟨w.heap.size, 3, none⟩ (.int .u32 (t4 : Int))).setCell ⟨w.heap.size, 4, none⟩ (.int .u32 (t5 : Int))).setCell ⟨w.heap.size, 5, none⟩ (.slice Au l.length cu)).setCell ⟨w.heap.size, 6, none⟩ (.int .u16 48862)).setCell ⟨w.heap.size, 7, none⟩ (.slice A2 ext.length c2)).setCell ⟨w.heap.size, 8, none⟩ (.slice A6 pay.length c6)) = WF := eF
        rw [eW]
        clear eW eF
        simp only at y0 y1 y2 y3 y4 y5 y6 y7 y8
        refine bodyPost_ret (by simp [results, Try.results9, go_sem, y0, y1, y2, y3, y4, y5, y6, y7, y8]; try rfl) rfl ?_
        exact hfin
      have g0 : (s == 0) = false := by simp [hs]
      by_cases hs1 : s = 1
      · have g1 : (s == 1) = true := by simp [hs1]
        clear hs hs1
        have hA8 : PAny g w (w8.setCell ⟨L, 6, none⟩ (.int .u16 4096)) w.heap.size L ⟨r1 == 0, ty, seq, t4, t5, l, 4096, [], pay⟩ Au cu A6 c6 := ⟨none, 0, [], hp0, hE8.set 6 _ rfl rfl hE8.ext rfl⟩
        go_upto_region 12 with (fail)
        clear k0 k1 k2 k3 k4 k5 k6 k7' k8 s6 s7 hE8
        generalize w8.setCell ⟨L, 6, none⟩ (.int .u16 4096) = V at hA8 ⊢
        refine wp_region_f (F := endF g w w.heap.size L ⟨r1 == 0, ty, seq, t4, t5, l, 4096, [], pay⟩ Au cu A6 c6)
          [.val (.pointer (some ⟨L, 6, none⟩)), .val (.int .u16 4096), .val (.pointer (some ⟨g, 0, none⟩)), elC g w w.heap.size L ⟨r1 == 0, ty, seq, t4, t5, l, 4096, [], pay⟩ Au cu A6 c6 true, tupC g w w.heap.size L ⟨r1 == 0, ty, seq, t4, t5, l, 4096, [], pay⟩ Au cu A6 c6, tupC g w w.heap.size L ⟨r1 == 0, ty, seq, t4, t5, l, 4096, [], pay⟩ Au cu A6 c6, extC g w w.heap.size L ⟨r1 == 0, ty, seq, t4, t5, l, 4096, [], pay⟩ Au cu A6 c6, .any, .val (.pointer (some ⟨L, 7, none⟩)), .any]
          (by kernel_rfl) (by kernel_rfl) (by kernel_rfl) hA8 (AllOblF.all ⟨?_, ?_, ?_, ?_, ?_, ?_, ?_, ?_, ?_, ?_, trivial⟩) ?_
        · refine OblF.pure rfl (.pointer (some ⟨L, 6, none⟩)) (by kernel_rfl) rfl fun ev W hI hf hx => ?_
          have e3 : ev (.tmp 3) = .pointer (some ⟨L, 0, none⟩) := holds_valF (hx (.tmp 3)) (by kernel_rfl)
          simp [execOp, e3, go_sem]
        · refine OblF.pure rfl (.int .u16 4096) (by kernel_rfl) rfl fun ev W hI hf hx => ?_
          have e3 : ev (.tmp 51) = .pointer (some ⟨L, 6, none⟩) := holds_valF (hx (.tmp 51)) (by kernel_rfl)
          obtain ⟨A2, c2, ext, _, hE⟩ := hI
          have c5 := hE.cells.2.2.2.2.2.2.1
          simp [execOp, e3, go_sem, c5]
        · exact OblF.move rfl _ (Or.inl rfl) (by kernel_rfl) rfl
        · refine OblF.call rfl 19 #[.tmp 53, .const (.bool true)] _ rfl Try.f19 Try.func19 (by kernel_rfl) (by kernel_rfl) rfl fun ev W hI hf hx => ?_
          have e3 : ev (.tmp 53) = .pointer (some ⟨g, 0, none⟩) := holds_valF (hx (.tmp 53)) (by kernel_rfl)
          have e4 : ev (.const (.bool true)) = .bool true := holds_valF (hx (.const (.bool true))) (by kernel_rfl)
          simp only [List.map_toArray, List.map_cons, List.map_nil, e3, e4]
          refine (tape_elems g true W (PAny.tape hI)).mono ?_
          rintro e W' ⟨A, c, E, rfl, h1, h2, h3, hm⟩
          exact ⟨_, rfl, PAny.step hI hm, hm.same2, A, c, E, rfl, h1, h2, h3⟩
        · refine OblF.call rfl 21 #[.tmp 52, .tmp 54] _ rfl Try.f21 Try.func21 (by kernel_rfl) (by kernel_rfl) rfl fun ev W hI hf hx => ?_
          have e3 : ev (.tmp 52) = .int .u16 4096 := holds_valF (hx (.tmp 52)) (by kernel_rfl)
          obtain ⟨A, c, E, e4, h1, h2, h3⟩ := el_of (two := true) (hx (.tmp 54)) (by kernel_rfl)
          simp only [List.map_toArray, List.map_cons, List.map_nil, e3, e4]
          refine (ref_elems 4096 A _ c E W (by omega) h3 (by omega) (fun e he => by have := (h2 e he).2.2.1; omega)).mono ?_
          rintro e W' ⟨A', c', rfl, hr, hb⟩
          have hm := Moves.of (PAny.tape hI) hb
          exact ⟨_, rfl, PAny.step hI hm, hm.same2, A', c', _, _, rfl, elemsB_ok _ h1 h2, hr⟩
        · exact OblF.move rfl _ (Or.inl rfl) (by kernel_rfl) rfl
        · refine OblF.step rfl fun ev W hI hf hx => ?_
          obtain ⟨A, c, l', k', e3, h1, h2⟩ := tup_of (hx (.tmp 50)) (by kernel_rfl)
          exact ⟨.slice A l'.length c, W, by simp [execOp, e3, go_sem], hI, (endF g w w.heap.size L ⟨r1 == 0, ty, seq, t4, t5, l, 4096, [], pay⟩ Au cu A6 c6).refl _ hI, A, c, l', rfl, h1, h2⟩
        · refine OblF.step rfl fun ev W hI hf hx => ?_
          obtain ⟨A, c, l', k', e3, h1, h2⟩ := tup_of (hx (.tmp 50)) (by kernel_rfl)
          exact ⟨.int .i64 k', W, by simp [execOp, e3, go_sem], hI, (endF g w w.heap.size L ⟨r1 == 0, ty, seq, t4, t5, l, 4096, [], pay⟩ Au cu A6 c6).refl _ hI, trivial⟩
        · refine OblF.pure rfl (.pointer (some ⟨L, 7, none⟩)) (by kernel_rfl) rfl fun ev W hI hf hx => ?_
          have e3 : ev (.tmp 3) = .pointer (some ⟨L, 0, none⟩) := holds_valF (hx (.tmp 3)) (by kernel_rfl)
          simp [execOp, e3, go_sem]
        · refine OblF.store rfl rfl fun ev W hI hf hx => ?_
          have e3 : ev (.tmp 58) = .pointer (some ⟨L, 7, none⟩) := holds_valF (hx (.tmp 58)) (by kernel_rfl)
          obtain ⟨A, c, l', e4, h1, h2⟩ := ext_of (hx (.tmp 56)) (by kernel_rfl)
          have hI' : PAny g w W w.heap.size L ⟨r1 == 0, ty, seq, t4, t5, l, 4096, [], pay⟩ Au cu A6 c6 := hI
          obtain ⟨A2, c2, ext, h3, hE⟩ := hI'
          have c7 := hE.cells.2.2.2.2.2.2.2.1
          have f7 := hE.soft 7
          refine ⟨W.setCell ⟨L, 7, none⟩ (.slice A l'.length c), ?_, ⟨A, c, l', h1, hE.set (p' := ⟨r1 == 0, ty, seq, t4, t5, l, 4096, l', pay⟩) 7 _ rfl rfl h2 rfl⟩, ⟨((Below.refl 0 W).setCell (p := ⟨L, 7, none⟩) (Nat.zero_le _) _).size, fun k _ _ hk => Below.heap_setCell _ _ _ _ hk⟩, trivial⟩
          simp [execOp, e3, e4, go_sem, c7, f7]
        intro a W hI hf hsz hdf hold hv
        have ha := act_puts [51, 52, 53, 54, 55, 50, 56, 57, 58] (by kernel_rfl) hsz hdf hold
        simp only [putAll] at ha
        generalize a.tmps.getD 51 undef = x51 at ha
        generalize a.tmps.getD 52 undef = x52 at ha
        generalize a.tmps.getD 53 undef = x53 at ha
        generalize a.tmps.getD 54 undef = x54 at ha
        generalize a.tmps.getD 55 undef = x55 at ha
        generalize a.tmps.getD 50 undef = x50 at ha
        generalize a.tmps.getD 56 undef = x56 at ha
        generalize a.tmps.getD 57 undef = x57 at ha
        generalize a.tmps.getD 58 undef = x58 at ha
        have hI' : PAny g w W w.heap.size L ⟨r1 == 0, ty, seq, t4, t5, l, 4096, [], pay⟩ Au cu A6 c6 := hI
        clear hv hold hsz hdf hI hf
        subst ha
        simp only [Act.put, List.setIfInBounds_toArray, List.set_cons_succ, List.set_cons_zero]
        obtain ⟨A2, c2, ext, hok, hE⟩ := hI'
        obtain ⟨k0, k1, k2, k3, k4, k5, k6, k7', k8⟩ := hE.cells
        simp only at k0 k1 k2 k3 k4 k5 k6 k7' k8
        obtain ⟨q0, q1, q2, q3, q4, q5, q6, q7, q8⟩ := hE.rcells
        have s0 := hE.rsoft 0
        have s1 := hE.rsoft 1
        have s2 := hE.rsoft 2
        have s3 := hE.rsoft 3
        have s4 := hE.rsoft 4
        have s5 := hE.rsoft 5
        have s6 := hE.rsoft 6
        have s7 := hE.rsoft 7
        have s8 := hE.rsoft 8
        go_wp2_with fail
        obtain ⟨WF, eF, hfin, y0, y1, y2, y3, y4, y5, y6, y7, y8⟩ := hE.final ⟨by show I64 (ty : Int); unfold I64; omega, by simp only; omega, by simp only; omega, by simp only; omega, by simp only; omega, by simp only; omega, by simp only; have := hok.2; omega, by simp only; omega⟩ (right_ok (by simp only; omega) (by simp only; omega) (by simp only; omega) hok.1 hok.2 (by simp only; omega) (by intro h; cases h)) (by simp only; omega) (by simp only; omega) hok.2
        have eW : (((((((((W.setCell ⟨w.heap.size, 0, none⟩ (.bool (r1 == 0))).setCell ⟨w.heap.size, 1, none⟩ (.int .i64 (ty : Int))).setCell ⟨w.heap.size, 2, none⟩ (.int .u16 (seq : Int))).setCell ⟨w.heap.size, 3, none⟩ (.int .u32 (t4 : Int))).setCell ⟨w.heap.size, 4, none⟩ (.int .u32 (t5 : Int))).setCell ⟨w.heap.size, 5, none⟩ (.slice Au l.length cu)).setCell ⟨w.heap.size, 6, none⟩ (.int .u16 4096)).setCell ⟨w.heap.size, 7, none⟩ (.slice A2 ext.length c2)).setCell ⟨w.heap.size, 8, none⟩ (.slice A6 pay.length c6)) = WF := eF
        rw [eW]
        clear eW eF
        simp only at y0 y1 y2 y3 y4 y5 y6 y7 y8
        refine bodyPost_ret (by simp [results, Try.results9, go_sem, y0, y1, y2, y3, y4, y5, y6, y7, y8]; try rfl) rfl ?_
        exact hfin
      have g1 : (s == 1) = false := by simp [hs1]
      by_cases hs2 : s = 2
      · have g2 : (s == 2) = true := by simp [hs2]
        clear hs hs1 hs2
        clear k0 k1 k2 k3 k4 k5 k6 k7' k8 s6 s7
        go_wp2_with fail
        refine (next_any g 65535 _ hE8.moves.tape (by unfold I64; omega)).mono ?_
        rintro e w9 ⟨r9, rfl, h9a, h9b, hm9⟩
        have hE9 := hE8.step hm9
        clear hE8 hm9
        obtain ⟨n9, rfl⟩ := Int.eq_ofNat_of_zero_le h9a
        have k6 := hE9.cells.2.2.2.2.2.2.1
        have s6 := hE9.soft 6
        have hE10 := hE9.set (p' := ⟨r1 == 0, ty, seq, t4, t5, l, 1 + n9, [], pay⟩) 6 (.int .u16 ((1 + n9 : Nat) : Int)) rfl rfl hE9.ext rfl
        have e10 : ((1 + n9 : Nat) : Int) = 1 + (n9 : Int) := by omega
        rw [e10] at hE10
        clear e10
        go_wp2_with fail
        clear k6 s6 hE9
        revert hE10
        generalize w9.setCell ⟨L, 6, none⟩ (.int .u16 (1 + (n9 : Int))) = V
        intro hE10
        refine (tape_bytes g 12 _ hE10.moves.tape (by omega)).mono ?_
        rintro e w11 ⟨A7, c7, l7, rfl, hl7, hR7, hm11, hA7⟩
        have hE11 := hE10.step hm11
        clear hE10 hm11 hA7
        go_wp2_with fail
        refine (ref_pad_all _ _ _ _ _ hR7 (by omega) 4).mono ?_
        rintro e w12 ⟨A8, m8, c8, rfl, hR8, hb12⟩
        have hm8' := hR8.1
        subst hm8'
        have hE12 := hE11.on hb12
        clear hE11 hb12
        have hok : okExt (padL l7 4) := by
          unfold okExt padL padN
          rw [List.length_append, List.length_replicate]
          simp only [show (1 : Int) ≤ 4 ∧ (4 : Int) ≤ 64 by omega, and_self, if_true, show (4 : Int).toNat = 4 by rfl]
          omega
        generalize padL l7 4 = ext at hR8 hok ⊢
        have A2 := A8
        have k7 := hE12.cells.2.2.2.2.2.2.2.1
        have s7 := hE12.soft 7
        have hE := hE12.set (p' := ⟨r1 == 0, ty, seq, t4, t5, l, 1 + n9, ext, pay⟩) 7 (.slice A8 ext.length c8) rfl rfl hR8 rfl
        clear A2
        go_upto_region 16 with (fail)
        clear k7 s7 hE12
        revert hE
        generalize w12.setCell ⟨L, 7, none⟩ (.slice A8 ext.length c8) = W
        intro hE
        obtain ⟨k0, k1, k2, k3, k4, k5, k6, k7', k8⟩ := hE.cells
        simp only at k0 k1 k2 k3 k4 k5 k6 k7' k8
        obtain ⟨q0, q1, q2, q3, q4, q5, q6, q7, q8⟩ := hE.rcells
        have s0 := hE.rsoft 0
        have s1 := hE.rsoft 1
        have s2 := hE.rsoft 2
        have s3 := hE.rsoft 3
        have s4 := hE.rsoft 4
        have s5 := hE.rsoft 5
        have s6 := hE.rsoft 6
        have s7 := hE.rsoft 7
        have s8 := hE.rsoft 8
        go_wp2_with fail
        obtain ⟨WF, eF, hfin, y0, y1, y2, y3, y4, y5, y6, y7, y8⟩ := hE.final ⟨by show I64 (ty : Int); unfold I64; omega, by simp only; omega, by simp only; omega, by simp only; omega, by simp only; omega, by simp only; omega, by simp only; have := hok.2; omega, by simp only; omega⟩ (right_ok (by simp only; omega) (by simp only; omega) (by simp only; omega) hok.1 hok.2 (by simp only; omega) (by intro h; simp only at h; omega)) (by simp only; omega) (by simp only; omega) hok.2
        have eW : (((((((((W.setCell ⟨w.heap.size, 0, none⟩ (.bool (r1 == 0))).setCell ⟨w.heap.size, 1, none⟩ (.int .i64 (ty : Int))).setCell ⟨w.heap.size, 2, none⟩ (.int .u16 (seq : Int))).setCell ⟨w.heap.size, 3, none⟩ (.int .u32 (t4 : Int))).setCell ⟨w.heap.size, 4, none⟩ (.int .u32 (t5 : Int))).setCell ⟨w.heap.size, 5, none⟩ (.slice Au l.length cu)).setCell ⟨w.heap.size, 6, none⟩ (.int .u16 (1 + (n9 : Int)))).setCell ⟨w.heap.size, 7, none⟩ (.slice A8 ext.length c8)).setCell ⟨w.heap.size, 8, none⟩ (.slice A6 pay.length c6)) = WF := by
          have e9 : (1 + (n9 : Int)) = ((1 + n9 : Nat) : Int) := by omega
          rw [e9]
          exact eF
        rw [eW]
        clear eW eF
        simp only at y0 y1 y2 y3 y4 y5 y6 y7 y8
        refine bodyPost_ret (by simp [results, Try.results9, go_sem, y0, y1, y2, y3, y4, y5, y6, y7, y8]; try rfl) rfl ?_
        exact hfin
      · have g2 : (s == 2) = false := by simp [hs2]
        clear hs hs1 hs2
        have hE := hE8
        clear hE8 k0 k1 k2 k3 k4 k5 k6 k7' k8 s6 s7
        have hok := hp0
        go_upto_region 16 with (fail)
        obtain ⟨k0, k1, k2, k3, k4, k5, k6, k7', k8⟩ := hE.cells
        simp only at k0 k1 k2 k3 k4 k5 k6 k7' k8
        obtain ⟨q0, q1, q2, q3, q4, q5, q6, q7, q8⟩ := hE.rcells
        have s0 := hE.rsoft 0
        have s1 := hE.rsoft 1
        have s2 := hE.rsoft 2
        have s3 := hE.rsoft 3
        have s4 := hE.rsoft 4
        have s5 := hE.rsoft 5
        have s6 := hE.rsoft 6
        have s7 := hE.rsoft 7
        have s8 := hE.rsoft 8
        go_wp2_with fail
        obtain ⟨WF, eF, hfin, y0, y1, y2, y3, y4, y5, y6, y7, y8⟩ := hE.final ⟨by show I64 (ty : Int); unfold I64; omega, by simp only; omega, by simp only; omega, by simp only; omega, by simp only; omega, by simp only; omega, by simp only; have := hok.2; omega, by simp only; omega⟩ (right_ok (by simp only; omega) (by simp only; omega) (by simp only; omega) hok.1 hok.2 (by simp only; omega) (by intro _; rfl)) (by simp only; omega) (by simp only; omega) hok.2
        have eW : (((((((((w8.setCell ⟨w.heap.size, 0, none⟩ (.bool (r1 == 0))).setCell ⟨w.heap.size, 1, none⟩ (.int .i64 (ty : Int))).setCell ⟨w.heap.size, 2, none⟩ (.int .u16 (seq : Int))).setCell ⟨w.heap.size, 3, none⟩ (.int .u32 (t4 : Int))).setCell ⟨w.heap.size, 4, none⟩ (.int .u32 (t5 : Int))).setCell ⟨w.heap.size, 5, none⟩ (.slice Au l.length cu)).setCell ⟨w.heap.size, 6, none⟩ (.int .u16 0)).setCell ⟨w.heap.size, 7, none⟩ (.slice none 0 0)).setCell ⟨w.heap.size, 8, none⟩ (.slice A6 pay.length c6)) = WF := eF
        rw [eW]
        clear eW eF
        simp only at y0 y1 y2 y3 y4 y5 y6 y7 y8
        refine bodyPost_ret (by simp [results, Try.results9, go_sem, y0, y1, y2, y3, y4, y5, y6, y7, y8]; try rfl) rfl ?_
        exact hfin
theorem tape_rtp (g : Nat) (w : World) (hT : TapeAt w g) : Calls Try.prog 9 #[.pointer (some ⟨g, 0, none⟩)] w (RtpOut g w) :=
  (tape_rtp_new g w hT).mono fun _ _ h => h.out
end Go.Proofs.Ytpcdmcaojgpfoaa
