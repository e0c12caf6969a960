/- AlarmPlays' walk. -/
import Derived.Test.YtkhhaokelhmikaaAlY
namespace Go.Proofs.Ytkhhaokelhmikaa
open Go.RowKit
set_option linter.unusedVariables false
set_option linter.unusedSimpArgs false
set_option maxRecDepth 20000

def plF (w0 : World) (AS : Option Addr) (q cS : Nat) (S : List Ask) : Frame := belF (fun W => OwnA W w0.heap.size (.slice AS q cS) S ∧ Below w0.heap.size w0 W) (fun a b h hb => ⟨h.1.on hb, h.2.trans (hb.mono h.2.size)⟩)
def plC (w0 : World) (AS : Option Addr) (q cS : Nat) (S : List Ask) (k : Int) (y z : Nat) : ClF (plF w0 AS q cS S) := .pred (fun u W => ∃ g, u = .slice (some ⟨g, 0, none⟩) 1 1 ∧ RA W W.heap.size (some ⟨g, 0, none⟩) 1 1 [⟨k, y, z⟩]) (fun u a b _ hf _ h => by
  obtain ⟨g, e, hr⟩ := h
  exact ⟨g, e, hr.on hf⟩)
theorem plC_of {w0 W : World} {AS : Option Addr} {q cS : Nat} {S : List Ask} {k : Int} {y z : Nat} {c : ClF (plF w0 AS q cS S)} {u : Value} (h : c.holds u W) (e : c = plC w0 AS q cS S k y z) : ∃ g, u = .slice (some ⟨g, 0, none⟩) 1 1 ∧ RA W W.heap.size (some ⟨g, 0, none⟩) 1 1 [⟨k, y, z⟩] := by subst e; exact h
set_option maxHeartbeats 4000000 in
theorem alarmPlays_walk (A : Option Addr) (n c : Nat) (L : List Ask) (w : World) (h : RA w w.heap.size A n c L) (hn : n ≤ 5864062014805) :
    Calls Try.prog 4 #[.slice A n c] w (Yes w) := by
  have HRA := Lib.hid h
  have hin := Lib.hid h.2.1
  have hlen := Lib.hid h.1
  clear h
  go_enter Try.func4, Try.ntmps4
  go_wp2_with fail
  go_loopw [3, 4, 7] (fun v _ i wr => ∃ (q : Nat) (S : List Ask) (vv : Value), v = vv ∧ q ≤ n ∧ i = .int .i64 (q : Int) ∧ Hid (OwnA wr w.heap.size vv S ∧ (∀ x ∈ S, x.In) ∧ S.length = q ∧ Below w.heap.size w wr)) (fun _ _ i _ => n - (intOf i).toNat)
  case atStart => exact ⟨0, [], _, rfl, by omega, rfl, Lib.hid ⟨OwnA.nil _ _, by simp, rfl, Below.refl _ _⟩⟩
  case round =>
    obtain ⟨q, S, vv, rfl, hqn, rfl, HS⟩ := hrel
    by_cases hlt : q < n
    · have g1 : decide ((q : Int) < (n : Int)) = true := by simp; omega
      have g3 : (q : Int) < (n : Int) := by omega
      obtain ⟨hown, hSi, hSl, hbw⟩ := HS.out
      obtain ⟨AS, cS, hv, _, _⟩ := hown.ra hSi
      rw [hSl] at hv
      subst hv
      have hql : q < L.length := by have := hlen.out; omega
      obtain ⟨bA, off, rfl, hbA, c0, c1, c2⟩ := (HRA.out.below hbw).at (q := q) hql
      obtain ⟨hk64, hkk, hn64⟩ := hin.out L[q] (List.getElem_mem hql)
      obtain ⟨kd, hkd⟩ : ∃ kd, L[q].kind = kd := ⟨_, rfl⟩
      obtain ⟨kk, hke⟩ : ∃ kk, L[q].key = kk := ⟨_, rfl⟩
      obtain ⟨nn, hne⟩ : ∃ nn, L[q].n = nn := ⟨_, rfl⟩
      rw [hkd] at hk64
      rw [hke] at hkk
      have HX := Lib.hid (⟨hkd, hke, hne⟩ : L[q].kind = kd ∧ L[q].key = kk ∧ L[q].n = nn)
      have m1 := Int.lt_tmod_of_pos kd (show (0 : Int) < 5 by omega)
      have m2 := Int.tmod_lt_of_pos kd (show (0 : Int) < 5 by omega)
      have hw17 : IntKind.i64.wrap (kd.tmod 5 + 5) = kd.tmod 5 + 5 := IntWalk.i64_in _ (by omega)
      have hw16 : IntKind.i64.wrap (kd.tmod 5) = kd.tmod 5 := IntWalk.i64_in _ (by omega)
      obtain ⟨k, hk⟩ : ∃ k, (kd.tmod 5 + 5).tmod 5 = k := ⟨_, rfl⟩
      have hk5 : 0 ≤ k ∧ k < 5 := by rw [← hk, Int.tmod_eq_emod_of_nonneg (by omega)]; omega
      have HK := Lib.hid (⟨hk, hk5⟩ : _ ∧ _)
      obtain ⟨y, hy⟩ : ∃ y : Nat, bits .and .u64 (kk : Int) 15 = (y : Int) ∧ y < 18446744073709551616 := ⟨kk &&& 15, bits_and_u64_nat kk 15 (by omega) (by omega), Nat.lt_of_le_of_lt Nat.and_le_right (by omega)⟩
      have HY := Lib.hid hy
      obtain ⟨z, hz, hz31⟩ := bits_and_le nn 31 (by omega)
      have HZ := Lib.hid (⟨hz, hz31⟩ : bits .and .i64 nn 31 = (z : Int) ∧ z ≤ 31)
      have HIN : Hid (Ask.In ⟨k, y, z⟩) := Lib.hid ⟨by show I64 k; unfold I64; omega, hy.2, by show I64 (z : Int); unfold I64; omega⟩
      have hq3 : (q : Int) < (n : Int) := g3
      have hq4 : q < n := hlt
      have HSI := Lib.hid (⟨hSi, hSl⟩ : _ ∧ _)
      have HOB := Lib.hid (⟨hown, hbw⟩ : _ ∧ _)
      clear hy hz hk hkd hke hne hk5 hSi HS hk64 hn64 hkk
      go_upto_region 5 with (fail)
      clear c0 c1 c2
      refine wp_region_ft (F := plF w AS q cS S) 23 [.val (.slice AS q cS), .val (.slice (some ⟨bA, off, none⟩) n c), .val (.int .i64 (q : Int)), .val (.pointer (some ⟨bA, off + q * 3, none⟩)), .val (.pointer (some ⟨bA, off + q * 3, none⟩)), .val (.int .i64 kd), .val (.int .i64 (kd.tmod 5)), .val (.int .i64 (kd.tmod 5 + 5)), .val (.int .i64 k), .val (.slice (some ⟨bA, off, none⟩) n c), .val (.int .i64 (q : Int)), .val (.pointer (some ⟨bA, off + q * 3, none⟩)), .val (.pointer (some ⟨bA, off + q * 3 + 1, none⟩)), .val (.int .u64 (kk : Int)), .val (.int .u64 (y : Int)), .val (.slice (some ⟨bA, off, none⟩) n c), .val (.int .i64 (q : Int)), .val (.pointer (some ⟨bA, off + q * 3, none⟩)), .val (.pointer (some ⟨bA, off + q * 3 + 2, none⟩)), .val (.int .i64 nn), .val (.int .i64 (z : Int)), .val (.agg #[.int .i64 k, .int .u64 (y : Int), .int .i64 (z : Int)]), plC w AS q cS S k y z]
        (by kernel_rfl) (by kernel_rfl) (by kernel_rfl) (by decide) (by kernel_rfl) HOB.out (AllOblF.upto ⟨?_, ?_, ?_, ?_, ?_, ?_, ?_, ?_, ?_, ?_, ?_, ?_, ?_, ?_, ?_, ?_, ?_, ?_, ?_, ?_, ?_, ?_, ?_, trivial⟩) ?_
      · exact OblF.move rfl _ (Or.inl rfl) (by kernel_rfl) rfl
      · exact OblF.move rfl _ (Or.inl rfl) (by kernel_rfl) rfl
      · exact OblF.move rfl _ (Or.inl rfl) (by kernel_rfl) rfl
      · refine OblF.pure rfl (.pointer (some ⟨bA, off + q * 3, none⟩)) (by kernel_rfl) rfl fun ev W hI hf hx => ?_
        have e11 : ev (.tmp 11) = .slice (some ⟨bA, off, none⟩) n c := holds_valF (hx (.tmp 11)) (by kernel_rfl)
        have e12 : ev (.tmp 12) = .int .i64 (q : Int) := holds_valF (hx (.tmp 12)) (by kernel_rfl)
        simp [execOp, e11, e12, go_sem, hq3, hq4]
      · refine OblF.pure rfl (.pointer (some ⟨bA, off + q * 3, none⟩)) (by kernel_rfl) rfl fun ev W hI hf hx => ?_
        have e13 : ev (.tmp 13) = .pointer (some ⟨bA, off + q * 3, none⟩) := holds_valF (hx (.tmp 13)) (by kernel_rfl)
        simp [execOp, e13, go_sem]
      · refine OblF.pure rfl (.int .i64 kd) (by kernel_rfl) rfl fun ev W hI hf hx => ?_
        have e14 : ev (.tmp 14) = .pointer (some ⟨bA, off + q * 3, none⟩) := holds_valF (hx (.tmp 14)) (by kernel_rfl)
        obtain ⟨_, _, ea, _, d0, d1, d2⟩ := (HRA.out.below hI.2).at hql
        injection ea with ea
        injection ea with ea1 ea2
        subst ea1
        subst ea2
        rw [HX.out.1] at d0
        simp [execOp, e14, go_sem, d0]
      · refine OblF.pure rfl (.int .i64 (kd.tmod 5)) (by kernel_rfl) rfl fun ev W hI hf hx => ?_
        have e15 : ev (.tmp 15) = .int .i64 kd := holds_valF (hx (.tmp 15)) (by kernel_rfl)
        have k1 : ev (.const (.int .i64 5)) = .int .i64 5 := holds_valF (hx (.const (.int .i64 5))) (by kernel_rfl)
        simp [execOp, e15, k1, go_sem, hw16]
      · refine OblF.pure rfl (.int .i64 (kd.tmod 5 + 5)) (by kernel_rfl) rfl fun ev W hI hf hx => ?_
        have e16 : ev (.tmp 16) = .int .i64 (kd.tmod 5) := holds_valF (hx (.tmp 16)) (by kernel_rfl)
        have k1 : ev (.const (.int .i64 5)) = .int .i64 5 := holds_valF (hx (.const (.int .i64 5))) (by kernel_rfl)
        simp [execOp, e16, k1, go_sem, hw17]
      · refine OblF.pure rfl (.int .i64 k) (by kernel_rfl) rfl fun ev W hI hf hx => ?_
        have e17 : ev (.tmp 17) = .int .i64 (kd.tmod 5 + 5) := holds_valF (hx (.tmp 17)) (by kernel_rfl)
        have k1 : ev (.const (.int .i64 5)) = .int .i64 5 := holds_valF (hx (.const (.int .i64 5))) (by kernel_rfl)
        simp [execOp, e17, k1, go_sem, HK.out.1]
      · exact OblF.move rfl _ (Or.inl rfl) (by kernel_rfl) rfl
      · exact OblF.move rfl _ (Or.inl rfl) (by kernel_rfl) rfl
      · refine OblF.pure rfl (.pointer (some ⟨bA, off + q * 3, none⟩)) (by kernel_rfl) rfl fun ev W hI hf hx => ?_
        have e19 : ev (.tmp 19) = .slice (some ⟨bA, off, none⟩) n c := holds_valF (hx (.tmp 19)) (by kernel_rfl)
        have e20 : ev (.tmp 20) = .int .i64 (q : Int) := holds_valF (hx (.tmp 20)) (by kernel_rfl)
        simp [execOp, e19, e20, go_sem, hq3, hq4]
      · refine OblF.pure rfl (.pointer (some ⟨bA, off + q * 3 + 1, none⟩)) (by kernel_rfl) rfl fun ev W hI hf hx => ?_
        have e21 : ev (.tmp 21) = .pointer (some ⟨bA, off + q * 3, none⟩) := holds_valF (hx (.tmp 21)) (by kernel_rfl)
        simp [execOp, e21, go_sem]
      · refine OblF.pure rfl (.int .u64 (kk : Int)) (by kernel_rfl) rfl fun ev W hI hf hx => ?_
        have e22 : ev (.tmp 22) = .pointer (some ⟨bA, off + q * 3 + 1, none⟩) := holds_valF (hx (.tmp 22)) (by kernel_rfl)
        obtain ⟨_, _, ea, _, d0, d1, d2⟩ := (HRA.out.below hI.2).at hql
        injection ea with ea
        injection ea with ea1 ea2
        subst ea1
        subst ea2
        rw [HX.out.2.1] at d1
        simp [execOp, e22, go_sem, d1]
      · refine OblF.pure rfl (.int .u64 (y : Int)) (by kernel_rfl) rfl fun ev W hI hf hx => ?_
        have e23 : ev (.tmp 23) = .int .u64 (kk : Int) := holds_valF (hx (.tmp 23)) (by kernel_rfl)
        have k1 : ev (.const (.int .u64 15)) = .int .u64 15 := holds_valF (hx (.const (.int .u64 15))) (by kernel_rfl)
        simp [execOp, e23, k1, go_sem, HY.out.1]
      · exact OblF.move rfl _ (Or.inl rfl) (by kernel_rfl) rfl
      · exact OblF.move rfl _ (Or.inl rfl) (by kernel_rfl) rfl
      · refine OblF.pure rfl (.pointer (some ⟨bA, off + q * 3, none⟩)) (by kernel_rfl) rfl fun ev W hI hf hx => ?_
        have e25 : ev (.tmp 25) = .slice (some ⟨bA, off, none⟩) n c := holds_valF (hx (.tmp 25)) (by kernel_rfl)
        have e26 : ev (.tmp 26) = .int .i64 (q : Int) := holds_valF (hx (.tmp 26)) (by kernel_rfl)
        simp [execOp, e25, e26, go_sem, hq3, hq4]
      · refine OblF.pure rfl (.pointer (some ⟨bA, off + q * 3 + 2, none⟩)) (by kernel_rfl) rfl fun ev W hI hf hx => ?_
        have e27 : ev (.tmp 27) = .pointer (some ⟨bA, off + q * 3, none⟩) := holds_valF (hx (.tmp 27)) (by kernel_rfl)
        simp [execOp, e27, go_sem]
      · refine OblF.pure rfl (.int .i64 nn) (by kernel_rfl) rfl fun ev W hI hf hx => ?_
        have e28 : ev (.tmp 28) = .pointer (some ⟨bA, off + q * 3 + 2, none⟩) := holds_valF (hx (.tmp 28)) (by kernel_rfl)
        obtain ⟨_, _, ea, _, d0, d1, d2⟩ := (HRA.out.below hI.2).at hql
        injection ea with ea
        injection ea with ea1 ea2
        subst ea1
        subst ea2
        rw [HX.out.2.2] at d2
        simp [execOp, e28, go_sem, d2]
      · refine OblF.pure rfl (.int .i64 (z : Int)) (by kernel_rfl) rfl fun ev W hI hf hx => ?_
        have e29 : ev (.tmp 29) = .int .i64 nn := holds_valF (hx (.tmp 29)) (by kernel_rfl)
        have k1 : ev (.const (.int .i64 31)) = .int .i64 31 := holds_valF (hx (.const (.int .i64 31))) (by kernel_rfl)
        simp [execOp, e29, k1, go_sem, HZ.out.1]
      · refine OblF.pure rfl (.agg #[.int .i64 k, .int .u64 (y : Int), .int .i64 (z : Int)]) (by kernel_rfl) rfl fun ev W hI hf hx => ?_
        have e18 : ev (.tmp 18) = .int .i64 k := holds_valF (hx (.tmp 18)) (by kernel_rfl)
        have e24 : ev (.tmp 24) = .int .u64 (y : Int) := holds_valF (hx (.tmp 24)) (by kernel_rfl)
        have e30 : ev (.tmp 30) = .int .i64 (z : Int) := holds_valF (hx (.tmp 30)) (by kernel_rfl)
        simp [execOp, e18, e24, e30, go_sem]
      · refine OblF.step rfl fun ev W hI hf hx => ?_
        have e31 : ev (.tmp 31) = .agg #[.int .i64 k, .int .u64 (y : Int), .int .i64 (z : Int)] := holds_valF (hx (.tmp 31)) (by kernel_rfl)
        have hbW := belowA W (.cells #[.int .i64 k, .int .u64 (y : Int), .int .i64 (z : Int)] 25)
        refine ⟨.slice (some ⟨W.heap.size, 0, none⟩) 1 1, W.alloc (.cells #[.int .i64 k, .int .u64 (y : Int), .int .i64 (z : Int)] 25), ?_, ?_, hbW, ?_⟩
        · simp [execOp, e31, go_sem]
        · exact ⟨hI.1.on hbW, hI.2.trans (hbW.mono hI.2.size)⟩
        · exact ⟨W.heap.size, rfl, (one_ra W ⟨k, y, z⟩ HIN.out).more (by simp)⟩
      intro aa W hI hf hsz hdf hold hv
      have v10 : aa.tmps.getD 10 undef = .slice AS q cS := holds_valF (hv 0 (by decide)) (by kernel_rfl)
      obtain ⟨g32, v32, r32⟩ := plC_of (k := k) (y := y) (z := z) (hv 22 (by decide)) (by kernel_rfl)
      have v32' : aa.tmps.getD 32 undef = .slice (some ⟨g32, 0, none⟩) 1 1 := v32
      have ha := act_puts [10, 11, 12, 13, 14, 15, 16, 17, 18, 19, 20, 21, 22, 23, 24, 25, 26, 27, 28, 29, 30, 31, 32, 33, 3] (by kernel_rfl) hsz hdf hold
      simp only [putAll, v10, v32'] at ha
      generalize aa.tmps.getD 11 undef = x11 at ha
      generalize aa.tmps.getD 12 undef = x12 at ha
      generalize aa.tmps.getD 13 undef = x13 at ha
      generalize aa.tmps.getD 14 undef = x14 at ha
      generalize aa.tmps.getD 15 undef = x15 at ha
      generalize aa.tmps.getD 16 undef = x16 at ha
      generalize aa.tmps.getD 17 undef = x17 at ha
      generalize aa.tmps.getD 18 undef = x18 at ha
      generalize aa.tmps.getD 19 undef = x19 at ha
      generalize aa.tmps.getD 20 undef = x20 at ha
      generalize aa.tmps.getD 21 undef = x21 at ha
      generalize aa.tmps.getD 22 undef = x22 at ha
      generalize aa.tmps.getD 23 undef = x23 at ha
      generalize aa.tmps.getD 24 undef = x24 at ha
      generalize aa.tmps.getD 25 undef = x25 at ha
      generalize aa.tmps.getD 26 undef = x26 at ha
      generalize aa.tmps.getD 27 undef = x27 at ha
      generalize aa.tmps.getD 28 undef = x28 at ha
      generalize aa.tmps.getD 29 undef = x29 at ha
      generalize aa.tmps.getD 30 undef = x30 at ha
      generalize aa.tmps.getD 31 undef = x31 at ha
      generalize aa.tmps.getD 33 undef = x33 at ha
      generalize aa.tmps.getD 3 undef = x3 at ha
      clear v10 v32 v32' hv hold hsz hdf
      subst ha
      simp only [List.toList_toArray, List.drop_succ_cons, List.drop_zero, Act.put, List.setIfInBounds_toArray, List.set_cons_succ, List.set_cons_zero]
      obtain ⟨oA, bA9⟩ := hI
      have sA := bA9.size
      have HL := Lib.hid (show S.length + 1 ≤ 5864062014805 by have := HSI.out.2; omega)
      clear hf hown hbw HOB
      go_wp2_with (at_builtin; go_loud (with_reducible refine wpList_appendA rfl (.tmp 10) (.tmp 32) rfl rfl w.heap.size (.slice AS q cS) S (by with_unfolding_all rfl) oA _ _ 1 1 [⟨k, y, z⟩] (by with_unfolding_all rfl) r32 HL.out sA ?_); intro v9 w9 ha9)
      have b9 := below_grown bA9 sA ha9.2 (fun kk hkk => (World.ownsRow.lt oA kk hkk).1)
      have HR := Lib.hid (show OwnA w9 w.heap.size v9 (S ++ [⟨k, y, z⟩]) ∧ (∀ x ∈ S ++ [⟨k, y, z⟩], x.In) ∧ (S ++ [(⟨k, y, z⟩ : Ask)]).length = q + 1 ∧ Below w.heap.size w w9 from ⟨ha9.1, fun x hx => by
        rcases List.mem_append.1 hx with h1 | h1
        · exact HSI.out.1 x h1
        · rw [List.mem_singleton] at h1
          subst h1
          exact HIN.out, by rw [List.length_append, HSI.out.2]; rfl, b9⟩)
      clear ha9 oA r32 bA9 b9 sA
      go_roundw
      case rel => exact ⟨q + 1, _, _, rfl, by omega, by go_num, HR⟩
      case measure => simp [intOf]; omega
    · have g1 : decide ((q : Int) < (n : Int)) = false := by simp; omega
      have hqn' : q = n := by omega
      subst hqn'
      obtain ⟨hown, hSi, hSl, hbw⟩ := HS.out
      obtain ⟨AS, cS, hv, hra, _⟩ := hown.ra hSi
      rw [hSl] at hv hra
      subst hv
      have HR := Lib.hid hra
      have c1 := play_any A q c L wr (HRA.out.on hbw) (by omega)
      clear hown hSi hSl hra HS
      go_wp2_with fail
      ((with_reducible refine c1.mono ?_); rintro e w1 ⟨rfl, d1⟩)
      have b1 := hbw.trans (d1.mono hbw.size)
      have r1 := HR.out.on d1
      clear c1 hbw d1
      go_wp2_with fail
      ((with_reducible refine (play_any AS q cS S _ r1 (by omega)).mono ?_); rintro e w2 ⟨rfl, d2⟩)
      have b2 := b1.trans (d2.mono b1.size)
      clear b1 r1 d2
      go_wp2_with fail
      ((with_reducible refine (known12_any _).mono ?_); rintro e w4 ⟨rfl, d4⟩)
      have b4 := b2.trans (d4.mono b2.size)
      clear b2 d4
      go_wp2_with fail
      go_ret
      exact ⟨rfl, b4⟩
end Go.Proofs.Ytkhhaokelhmikaa
