/- Contract: limelightref9's queue: Put, of what is taken. -/
import Derived.Test.YtdjopbhjfnakdaaRqN
namespace Go.Proofs.Ytdjopbhjfnakdaa
open Go.RowKit
set_option linter.unusedVariables false
set_option linter.unusedSimpArgs false
set_option maxRecDepth 20000

set_option maxHeartbeats 8000000 in
theorem ref_qput_yes (G g' r u l : Nat) (Q : Row8) (cut : Nat) (A : Option Addr) (c : Nat) (w : World) (h : RqAt w G g' r u l Q cut A c) (hu : u ≤ 1099511627776) (A8 : Option Addr) (n8 c8 : Nat) (x : List UInt8) (hx : R8 w w.heap.size A8 n8 c8 x) (hn8 : n8 ≤ 100000) (hyes : putB u Q x = true) :
    Calls Try.prog 23 #[.pointer (some ⟨G, 0, none⟩), .slice A8 n8 c8] w (RqPut G g' r u l Q cut A x w) := by
  have e1 : putQ u Q x = Q ++ [x] := by unfold putQ; rw [hyes]; rfl
  have e2 : putC u Q x cut = cut := by unfold putC; rw [hyes]; rfl
  unfold RqPut
  rw [e1, e2, hyes]
  have hxl := hx.1
  have hp : Q.length < 16 ∧ n8 + 28 ≤ u := by simpa only [putB, costN, decide_eq_true_eq, hxl] using hyes
  obtain ⟨hp1, hp2⟩ := hp
  have hy1 : IntKind.i64.wrap ((n8 : Int) + 28) = ((n8 + 28 : Nat) : Int) := by rw [IntKind.wrap_i64]; omega
  obtain ⟨⟨k0, k1, k2⟩, f1, f2⟩ := h.cells
  have kb : w.cell? ⟨g', 1, none⟩ = some (.int .i64 (u : Int)) := Blk.cell h.bkt 1
  have HQ := Lib.hid h
  have HX := Lib.hid hx
  have hGl := h.blk.lt
  have hgl := BkAt.lt h.bkt
  obtain ⟨n, hn⟩ : ∃ n, n = Q.length := ⟨_, rfl⟩
  rw [← hn] at k1 hp1
  have HN := Lib.hid hn
  have HL := Lib.hid (show Q.length + 1 ≤ 1000000 ∧ ([] : Row8).length + n ≤ 1000000 by rw [← hn]; simp; omega)
  obtain ⟨n28, hn28⟩ : ∃ n28, n28 = n8 + 28 := ⟨_, rfl⟩
  rw [← hn28] at hy1 hp2
  have t1 : decide ((16 : Int) ≤ (n : Int)) = false := by simp; omega
  have t2 : decide (16 ≤ n) = false := by simp; omega
  have t3 : decide ((u : Int) < (n28 : Int)) = false := by simp; omega
  have t4 : decide (u < n28) = false := by simp; omega
  have t5 : ¬ u < n28 := by omega
  clear e1 e2 hyes hx h hxl hn hn28 hp1 hp2
  go_enter Try.func23, Try.ntmps23
  go_upto_region 4 with (fail)
  refine wp_region_d (F := quF w) (fun _ _ => True) (fun k j => (k == 6 && j == 1) || (k == 10 && (j == 1 || j == 6 || j == 9))) (fun i => i == 6 || i == 10) (fun _ _ => True) 11
    [.val (.pointer (some ⟨G, 0, none⟩)), emQ w, .val (.pointer (some ⟨G, 0, none⟩)), .val (.pointer (some ⟨G, 0, none⟩)), .val (.pointer (some ⟨G, 1, none⟩)), .val (.slice A n c), rwQ w Q, .val (.slice A8 n8 c8), .val (.string (strB x)), onQ w x, rwQ w (Q ++ [x])]
    (fun _ _ _ _ => trivial) (by kernel_rfl) (by kernel_rfl) (by kernel_rfl) (by decide) (by kernel_rfl) (belowDrewN w 1) (fun i hi => trivial) (fun i a b _ _ _ _ _ => trivial) (AllOblD.upto ⟨?_, ?_, ?_, ?_, ?_, ?_, ?_, ?_, ?_, ?_, ?_, trivial⟩) ?_ ?_
  · intro _
    exact OblD.move rfl _ (Or.inl rfl) (by kernel_rfl) rfl
  · intro _
    refine OblD.step rfl fun ev W hI hx => ?_
    refine ⟨.slice (some ⟨W.heap.size, 0, none⟩) 0 0, W.alloc (.cells #[] 9), ?_, hI.trans ((belowA W _).mono hI.size), belowA W _, ⟨W.heap.size, rfl, hI.size, Blk.new _ _ _⟩⟩
    simp [execOp, go_sem]
  · intro _
    exact OblD.move rfl _ (Or.inl rfl) (by kernel_rfl) rfl
  · intro _
    refine OblD.pure rfl (.pointer (some ⟨G, 0, none⟩)) (by kernel_rfl) rfl fun ev W hI hx => ?_
    have e33 : ev (.tmp 33) = .pointer (some ⟨G, 0, none⟩) := holds_valF (hx (.tmp 33)) (by kernel_rfl)
    simp [execOp, e33, go_sem]
  · intro _
    refine OblD.pure rfl (.pointer (some ⟨G, 1, none⟩)) (by kernel_rfl) rfl fun ev W hI hx => ?_
    have e34 : ev (.tmp 34) = .pointer (some ⟨G, 0, none⟩) := holds_valF (hx (.tmp 34)) (by kernel_rfl)
    simp [execOp, e34, go_sem]
  · intro _
    refine OblD.pure rfl (.slice A n c) (by kernel_rfl) rfl fun ev W hI hx => ?_
    have e35 : ev (.tmp 35) = .pointer (some ⟨G, 1, none⟩) := holds_valF (hx (.tmp 35)) (by kernel_rfl)
    have d4 : W.cell? ⟨G, 1, none⟩ = some (.slice A n c) := (hI.cell (p := ⟨G, 1, none⟩) hGl).trans k1
    simp [execOp, e35, go_sem, d4]
  · exact fun hh => absurd hh (by decide)
  · intro _
    exact OblD.move rfl _ (Or.inl rfl) (by kernel_rfl) rfl
  · intro _
    refine OblD.pure rfl (.string (strB x)) (by kernel_rfl) rfl fun ev W hI hx => ?_
    have e38 : ev (.tmp 38) = .slice A8 n8 c8 := holds_valF (hx (.tmp 38)) (by kernel_rfl)
    have hcv := (HX.out.on hI).string (P := Try.prog) 29 5 9 Try.underlying29 Try.underlying5 Try.underlying9
    have hcv : (convert 29 9 (.slice A8 n8 c8)).run Try.prog W = .ok (.string (strB x)) W := hcv
    simp [execOp, e38, hcv]
  · intro _
    refine OblD.step rfl fun ev W hI hx => ?_
    have e39 : ev (.tmp 39) = .string (strB x) := holds_valF (hx (.tmp 39)) (by kernel_rfl)
    refine ⟨.slice (some ⟨W.heap.size, 0, none⟩) 1 1, W.alloc (.cells #[.string (strB x)] 9), ?_, hI.trans ((belowA W _).mono hI.size), belowA W _, ⟨W.heap.size, rfl, hI.size, Blk.new _ _ _⟩⟩
    simp [execOp, e39, go_sem]
  · exact fun hh => absurd hh (by decide)
  · intro i oo him hsp hoo
    have hi2 : i = 6 ∨ i = 10 := by simpa using hsp
    rcases hi2 with hi2 | hi2
    · subst hi2
      obtain rfl := (Option.some.inj hoo).symm
      refine OblDX.step rfl fun ev W hI hpre hx => ?_
      obtain ⟨g1, e32, hg1, b1⟩ := emQ_of (hx (.tmp 32)) (by kernel_rfl)
      have e36 : ev (.tmp 36) = .slice A n c := holds_valF (hx (.tmp 36)) (by kernel_rfl)
      have hrow : RS W W.heap.size A n c Q := by
        have := (HQ.out.row.below hI).more hI.size
        rw [← HN.out] at this
        exact this
      obtain ⟨v', W', hrun, ho', hg', _, _⟩ := run_appendQ w.heap.size _ [] (own_of_empty hg1 b1) W.heap.size A n c Q hrow HL.out.2 hI.size
      refine ⟨v', W', run_op_appendQ (.tmp 32) (.tmp 36) 45 45 rfl rfl _ _ _ _ _ e32 e36 hrun, below_grown hI hI.size hg' (fun k hk => by have hk : g1 = k := Option.some.inj hk; omega), ?_, fun j _ _ _ _ => trivial, ?_⟩
      · intro j uu hj hd _ hh
        by_cases hj9 : j < 11
        · have : j = 9 ∨ j = 10 ∨ j = 0 ∨ j = 1 ∨ j = 2 ∨ j = 3 ∨ j = 4 ∨ j = 5 ∨ j = 7 ∨ j = 8 := by omega
          rcases this with rfl | rfl | rfl | rfl | rfl | rfl | rfl | rfl | rfl | rfl
          · obtain ⟨g9, e9, hg9, b9⟩ := onQ_of (x := x) hh rfl
            refine ⟨g9, e9, hg9, (hg'.block g9 b9.lt (fun e => ?_)).trans b9⟩
            injection e with e
            have h1 := b9.cell 0
            rw [show g9 = g1 from e, b1.cell 0] at h1
            simp at h1
          · have hh : OwnS W w.heap.size uu (Q ++ [x]) := hh
            refine World.ownsRow.kept (row := some g1) hh hg' (.inr fun e => ?_)
            obtain ⟨hl, hn | ⟨g, cap, cur, rfl, _, hb, _, _, _, htk⟩⟩ := hh
            · rw [List.length_append, List.length_singleton] at hn
              omega
            · have e : g = g1 := by injection e
              subst e
              have hc : (Obj.cells cur 9 (0, 0)) = Obj.cells #[] 9 (0, 0) := Option.some.inj (hb.symm.trans b1)
              injection hc with hc
              subst hc
              rw [← htk] at hl
              simp at hl
          · exact hh
          · exact absurd hd (by decide)
          all_goals exact hh
        · rw [tbl_outF (n := 11) rfl (by omega)]
          trivial
      · exact ho'
    · subst hi2
      obtain rfl := (Option.some.inj hoo).symm
      refine OblDX.step rfl fun ev W hI hpre hx => ?_
      have o37 := rwQ_of (Q := Q) (hx (.tmp 37)) (by kernel_rfl)
      obtain ⟨g9, e40, hg9, b9⟩ := onQ_of (x := x) (hx (.tmp 40)) (by kernel_rfl)
      obtain ⟨v', W', hrun, ho', hg', _, _⟩ := run_appendQ w.heap.size _ Q o37 W.heap.size (some ⟨g9, 0, none⟩) 1 1 [x] (rs_of_one b9) HL.out.1 hI.size
      refine ⟨v', W', run_op_appendQ (.tmp 37) (.tmp 40) 45 45 rfl rfl _ _ _ _ _ rfl e40 hrun, below_grown hI hI.size hg' (fun k hk => (World.ownsRow.lt o37 k hk).1), ?_, fun j _ _ _ _ => trivial, ?_⟩
      · intro j uu hj hd _ hh
        by_cases hj9 : j < 11
        · have : j = 1 ∨ j = 6 ∨ j = 9 ∨ j = 0 ∨ j = 2 ∨ j = 3 ∨ j = 4 ∨ j = 5 ∨ j = 7 ∨ j = 8 := by omega
          rcases this with rfl | rfl | rfl | rfl | rfl | rfl | rfl | rfl | rfl | rfl
          · exact absurd hd (by decide)
          · exact absurd hd (by decide)
          · exact absurd hd (by decide)
          all_goals exact hh
        · rw [tbl_outF (n := 11) rfl (by omega)]
          trivial
      · exact ho'
  intro aa W hI hsz hdf hold hv _
  have o41 : OwnS W w.heap.size (aa.tmps.getD 41 undef) (Q ++ [x]) := rwQ_of (hv 10 (by decide) (by intro k; simp)) (by kernel_rfl)
  have v31 : aa.tmps.getD 31 undef = .pointer (some ⟨G, 0, none⟩) := holds_valF (hv 0 (by decide) (by intro k; simp)) (by kernel_rfl)
  have ha := act_puts [31, 32, 33, 34, 35, 36, 37, 38, 39, 40, 41, 42, 43] (by kernel_rfl) hsz hdf hold
  simp only [putAll, v31] at ha
  generalize aa.tmps.getD 41 undef = v41 at ha o41
  generalize aa.tmps.getD 32 undef = x32 at ha
  generalize aa.tmps.getD 33 undef = x33 at ha
  generalize aa.tmps.getD 34 undef = x34 at ha
  generalize aa.tmps.getD 35 undef = x35 at ha
  generalize aa.tmps.getD 36 undef = x36 at ha
  generalize aa.tmps.getD 37 undef = x37 at ha
  generalize aa.tmps.getD 38 undef = x38 at ha
  generalize aa.tmps.getD 39 undef = x39 at ha
  generalize aa.tmps.getD 40 undef = x40 at ha
  generalize aa.tmps.getD 42 undef = x42 at ha
  generalize aa.tmps.getD 43 undef = x43 at ha
  clear v31 hv hold hsz hdf
  subst ha
  simp only [List.toList_toArray, List.drop_succ_cons, List.drop_zero, Act.put, List.setIfInBounds_toArray, List.set_cons_succ, List.set_cons_zero]
  obtain ⟨A7, c7, e7, r7, h7⟩ := o41.rs
  obtain ⟨m7, hm7⟩ : ∃ m, m = (Q ++ [x]).length := ⟨_, rfl⟩
  rw [← hm7] at e7
  subst e7
  have hBW : Blk W G 49 #[.pointer (some ⟨g', 0, none⟩), .slice A Q.length c, .int .i64 (cut : Int)] := (hI.block G hGl).trans HQ.out.blk
  have hf1 := hBW.frozen 1
  have hc1 : W.cell? ⟨G, 1, none⟩ = some (.slice A n c) := (hI.cell (p := ⟨G, 1, none⟩) hGl).trans k1
  have hP : RqAt (W.setCell ⟨G, 1, none⟩ (.slice A7 m7 c7)) G g' r u l (Q ++ [x]) cut A7 c7 := by
    have hne := HQ.out.ne
    have ho := OnlyS.one (S := fun k => k = G) (Only.set G 1 W (.slice A7 m7 c7)) rfl
    refine ⟨?_, (HQ.out.bkt.on hI).onlyS ho (fun e : g' = G => hne e.symm), ?_, hne⟩
    · have := hBW.set_ 1 (.slice A7 m7 c7)
      rw [← hm7]
      simpa only [List.setIfInBounds_toArray, List.set_cons_succ, List.set_cons_zero] using this
    · obtain ⟨A8', c8', e8, r8, _⟩ := (OwnS.set (i := 1) (x := .slice A7 m7 c7) o41 hGl).rs
      rw [hm7] at e8
      injection e8 with e8 _ e9
      subst e8 e9
      exact r8
  have hO : OnlyS (fun k => k = G) w (W.setCell ⟨G, 1, none⟩ (.slice A7 m7 c7)) := (OnlyS.of hI).trans (OnlyS.one (S := fun k => k = G) (Only.set G 1 W (.slice A7 m7 c7)) rfl) (fun i hi _ => hi)
  have HP := Lib.hid (⟨hP, hO, h7⟩ : _ ∧ _ ∧ _)
  clear hP hO h7 hI o41 r7 hBW hm7
  go_wp2_with fail
  go_ret
  exact ⟨rfl, A7, c7, HP.out.1, HP.out.2.1, fun ad h => .inr (HP.out.2.2 ad h)⟩
theorem ref_qput (G g' r u l : Nat) (Q : Row8) (cut : Nat) (A : Option Addr) (c : Nat) (w : World) (h : RqAt w G g' r u l Q cut A c) (hQ : Q.length ≤ 16) (hu : u ≤ 1099511627776) (hcut : cut ≤ 1000000) (A8 : Option Addr) (n8 c8 : Nat) (x : List UInt8) (hx : R8 w w.heap.size A8 n8 c8 x) (hn8 : n8 ≤ 100000) :
    Calls Try.prog 23 #[.pointer (some ⟨G, 0, none⟩), .slice A8 n8 c8] w (RqPut G g' r u l Q cut A x w) := by
  cases hp : putB u Q x with
  | true => exact ref_qput_yes G g' r u l Q cut A c w h hu A8 n8 c8 x hx hn8 hp
  | false => exact ref_qput_no G g' r u l Q cut A c w h hQ hu hcut A8 n8 c8 x hx hn8 hp
end Go.Proofs.Ytdjopbhjfnakdaa
