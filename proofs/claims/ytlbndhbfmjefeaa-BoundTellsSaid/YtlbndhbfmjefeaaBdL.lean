/- BoundTells' walk. -/
import Derived.Test.YtlbndhbfmjefeaaBdH
import Derived.Deep.Cut
import Derived.Deep.CutBlock
namespace Go.Proofs.Ytlbndhbfmjefeaa
open Go.RowKit
set_option linter.unusedVariables false
set_option linter.unusedSimpArgs false
set_option maxRecDepth 20000

def tlF (w0 : World) (AS : Option Addr) (q cS : Nat) (S : List Tup) : Frame := belT (fun W => OwnTp W w0.heap.size (.slice AS q cS) S ∧ Below w0.heap.size w0 W) (fun a b h hb => ⟨h.1.on hb, h.2.trans (hb.mono h.2.size)⟩)
def tlC (w0 : World) (AS : Option Addr) (q cS : Nat) (S : List Tup) (yo yr yv : Nat) : ClF (tlF w0 AS q cS S) := .pred (fun u W => ∃ g, u = .slice (some ⟨g, 0, none⟩) 1 1 ∧ RT W W.heap.size (some ⟨g, 0, none⟩) 1 1 [⟨yo, yr, yv⟩]) (fun u a b _ hf _ h => by
  obtain ⟨g, e, hr⟩ := h
  exact ⟨g, e, hr.on hf⟩)
theorem tlC_of {w0 W : World} {AS : Option Addr} {q cS : Nat} {S : List Tup} {yo yr yv : Nat} {c : ClF (tlF w0 AS q cS S)} {u : Value} (h : c.holds u W) (e : c = tlC w0 AS q cS S yo yr yv) : ∃ g, u = .slice (some ⟨g, 0, none⟩) 1 1 ∧ RT W W.heap.size (some ⟨g, 0, none⟩) 1 1 [⟨yo, yr, yv⟩] := by subst e; exact h
set_option maxHeartbeats 4000000 in
theorem boundTells_walk (A : Option Addr) (n c : Nat) (nn : Int) (Ar : Option Addr) (nr cr : Nat) (lr : List Tup) (p : Nat) (w : World) (hr : RI w w.heap.size A n c) (hn : n ≤ 281474976710656) (hnn : I64 nn) (h : RT w w.heap.size Ar nr cr lr) (hnr : nr ≤ 5864062014805) (hp : p < 18446744073709551616) :
    Calls Try.prog 4 #[.slice A n c, .int .i64 nn, .slice Ar nr cr, .int .u64 (p : Int)] w (Yes w) := by
  obtain ⟨k7, hk7, hk7l⟩ := bits_and_le nn 7 (by omega)
  obtain ⟨p1, hp1, hp1l⟩ := and64_le (p : Int) 65535 (by omega)
  obtain ⟨p2, hp2, hp2l⟩ := and64_le (p : Int) 63 (by omega)
  obtain ⟨p3, hp3, hp3l⟩ := and64_le (p : Int) 1023 (by omega)
  replace hk7 : bits .and .i64 nn 7 = (k7 : Int) := hk7
  replace hp1 : bits .and .u64 (p : Int) 65535 = (p1 : Int) := hp1
  replace hp2 : bits .and .u64 (p : Int) 63 = (p2 : Int) := hp2
  replace hp3 : bits .and .u64 (p : Int) 1023 = (p3 : Int) := hp3
  obtain ⟨k1, hk1⟩ : ∃ k1, k1 = 1 + k7 := ⟨_, rfl⟩
  have y1 : IntKind.i64.wrap (1 + (k7 : Int)) = (k1 : Int) := by rw [IntKind.wrap_i64]; omega
  have hk1l : k1 ≤ 8 := by omega
  have HR := Lib.hid hr
  have HRR := Lib.hid h
  have HN := Lib.hid (⟨hn, hnr, hp⟩ : _ ∧ _ ∧ _)
  have HP := Lib.hid (⟨hp1, hp2, hp3⟩ : _ ∧ _ ∧ _)
  clear hr h hnn hn hnr hp hk7l hk1 hp1 hp2 hp3
  go_enter Try.func4, Try.ntmps4
  go_wp2_with fail
  ((with_reducible refine (row_any HR.out HN.out.1 k1 (by omega)).mono ?_); rintro e w1 ⟨vL, ML, rfl, owL, hML, hsL, b1⟩)
  obtain ⟨AL, cL, hv, rL, _⟩ := owL.rt (fun x hx => (hsL x hx).in_)
  rw [hML] at hv rL
  subst hv
  have HL := Lib.hid (⟨rL, hML, hsL⟩ : _ ∧ _ ∧ _)
  have HOL := Lib.hid owL
  have HB1 := Lib.hid b1
  have hrr1 := HRR.out.on b1
  have hcap := hrr1.2.2.2.1
  have HRR1 := Lib.hid hrr1
  clear rL hsL hML owL b1 hrr1 hk7 y1
  go_upto_if 19 with (fail)
  go_cut [2] from 17 to 22 (fun r0 wc => ∃ kr, kr ≤ nr ∧ kr ≤ 30 ∧ r0 = .slice Ar kr cr ∧ wc = w1)
  case first =>
    by_cases h30 : 30 < nr
    · have t1 : decide ((30 : Int) < (nr : Int)) = true := by simp; omega
      have hcut : ∀ W, (Instr.slice 22 (.slice Ar nr cr) none (some (.int .i64 30)) none).run Try.prog W = .ok (.slice Ar 30 cr) W := fun W => cut_tup Ar nr cr 30 (by omega) W
      go_wp2_with fail
      go_meet
      case rel => exact ⟨30, by omega, by omega, rfl, rfl⟩
    · have t1 : decide ((30 : Int) < (nr : Int)) = false := by simp; omega
      go_wp2_with fail
      go_meet
      case rel => exact ⟨nr, by omega, by omega, rfl, rfl⟩
  case rest =>
  obtain ⟨kr, hkr, hk30, rfl, rfl⟩ := hcut
  obtain ⟨w1, rfl⟩ : ∃ w1, w1 = wc := ⟨_, rfl⟩
  have HRT := Lib.hid (fun W (hb : Below w1.heap.size w1 W) => (HRR1.out.take hkr).on hb)
  have hlk : Hid ((lr.take kr).length = kr) := Lib.hid (HRR1.out.take hkr).1
  have hinR := Lib.hid (HRR1.out.take hkr).2.1
  obtain ⟨lk, hlke⟩ : ∃ lk, lk = lr.take kr := ⟨_, rfl⟩
  rw [← hlke] at HRT hlk hinR
  clear hlke
  go_wp2_with fail
  go_loopw [10, 24] (fun v i wr => ∃ (q : Nat) (S : List Tup) (vv : Value), v = vv ∧ q ≤ kr ∧ i = .int .i64 (q : Int) ∧ Hid (OwnTp wr w1.heap.size vv S ∧ (∀ x ∈ S, x.In) ∧ S.length = q ∧ Below w1.heap.size w1 wr)) (fun _ i _ => kr - (intOf i).toNat)
  case atStart => exact ⟨0, [], _, rfl, by omega, rfl, Lib.hid ⟨OwnTp.nil _ _, by simp, rfl, Below.refl _ _⟩⟩
  case round =>
    obtain ⟨q, S, vv, rfl, hqn, rfl, HS⟩ := hrel
    by_cases hlt : q < kr
    · have g1 : decide ((q : Int) < (kr : Int)) = true := by simp; omega
      have g3 : (q : Int) < (kr : Int) := by omega
      obtain ⟨hown, hSi, hSl, hbw⟩ := HS.out
      obtain ⟨AS, cS, hv, _, _⟩ := hown.rt hSi
      rw [hSl] at hv
      subst hv
      have hql : q < lk.length := by rw [hlk.out]; exact hlt
      obtain ⟨bA, off, rfl, hbA, c0, c1, c2⟩ := (HRT.out wr hbw).at (q := q) hql
      obtain ⟨hxo, hxr, hxv⟩ := hinR.out lk[q] (List.getElem_mem hql)
      obtain ⟨xo, hke⟩ : ∃ xo, lk[q].owner = xo := ⟨_, rfl⟩
      obtain ⟨xr, hre⟩ : ∃ xr, lk[q].rate = xr := ⟨_, rfl⟩
      obtain ⟨xv, hve⟩ : ∃ xv, lk[q].over = xv := ⟨_, rfl⟩
      have HX := Lib.hid (⟨hke, hre, hve⟩ : lk[q].owner = xo ∧ lk[q].rate = xr ∧ lk[q].over = xv)
      obtain ⟨yo, hyo, hyol⟩ := and32_le (xo : Int) 7 (by omega)
      obtain ⟨yr, hyr, hyrl⟩ := and64_le (xr : Int) 4095 (by omega)
      obtain ⟨yv, hyv, hyvl⟩ := bits_and_le xv 63 (by omega)
      have HY := Lib.hid (⟨hyo, hyr, hyv, hyol, hyrl, hyvl⟩ : bits .and .u32 (xo : Int) 7 = (yo : Int) ∧ bits .and .u64 (xr : Int) 4095 = (yr : Int) ∧ bits .and .i64 xv 63 = (yv : Int) ∧ _ ∧ _ ∧ _)
      have HIN : Hid (Tup.In ⟨yo, yr, (yv : Int)⟩) := Lib.hid ⟨by show yo < _; omega, by show yr < _; omega, by show I64 (yv : Int); unfold I64; omega⟩
      have hq3 : (q : Int) < (kr : Int) := g3
      have hq4 : q < kr := hlt
      have HSI := Lib.hid (⟨hSi, hSl⟩ : _ ∧ _)
      have HOB := Lib.hid (⟨hown, hbw⟩ : _ ∧ _)
      clear hyo hyr hyv hyol hyrl hyvl hke hre hve hxo hxr hxv hSi HS hSl
      go_upto_region 8 with (fail)
      clear c0 c1 c2
      refine wp_region_ft (F := tlF w1 AS q cS S) 21 [.val (.slice AS q cS), .val (.slice (some ⟨bA, off, none⟩) kr cr), .val (.int .i64 (q : Int)), .val (.pointer (some ⟨bA, off + q * 3, none⟩)), .val (.pointer (some ⟨bA, off + q * 3, none⟩)), .val (.int .u32 (xo : Int)), .val (.int .u32 (yo : Int)), .val (.slice (some ⟨bA, off, none⟩) kr cr), .val (.int .i64 (q : Int)), .val (.pointer (some ⟨bA, off + q * 3, none⟩)), .val (.pointer (some ⟨bA, off + q * 3 + 1, none⟩)), .val (.int .u64 (xr : Int)), .val (.int .u64 (yr : Int)), .val (.slice (some ⟨bA, off, none⟩) kr cr), .val (.int .i64 (q : Int)), .val (.pointer (some ⟨bA, off + q * 3, none⟩)), .val (.pointer (some ⟨bA, off + q * 3 + 2, none⟩)), .val (.int .i64 xv), .val (.int .i64 (yv : Int)), .val (.agg #[.int .u32 (yo : Int), .int .u64 (yr : Int), .int .i64 (yv : Int)]), tlC w1 AS q cS S yo yr yv]
        (by kernel_rfl) (by kernel_rfl) (by kernel_rfl) (by decide) (by kernel_rfl) HOB.out (AllOblF.upto ⟨?_, ?_, ?_, ?_, ?_, ?_, ?_, ?_, ?_, ?_, ?_, ?_, ?_, ?_, ?_, ?_, ?_, ?_, ?_, ?_, ?_, trivial⟩) ?_
      · exact OblF.move rfl _ (Or.inl rfl) (by kernel_rfl) rfl
      · exact OblF.move rfl _ (Or.inl rfl) (by kernel_rfl) rfl
      · exact OblF.move rfl _ (Or.inl rfl) (by kernel_rfl) rfl
      · refine OblF.pure rfl (.pointer (some ⟨bA, off + q * 3, none⟩)) (by kernel_rfl) rfl fun ev W hI hf hx => ?_
        have e28 : ev (.tmp 28) = .slice (some ⟨bA, off, none⟩) kr cr := holds_valF (hx (.tmp 28)) (by kernel_rfl)
        have e29 : ev (.tmp 29) = .int .i64 (q : Int) := holds_valF (hx (.tmp 29)) (by kernel_rfl)
        simp [execOp, e28, e29, go_sem, hq3, hq4]
      · refine OblF.pure rfl (.pointer (some ⟨bA, off + q * 3, none⟩)) (by kernel_rfl) rfl fun ev W hI hf hx => ?_
        have e30 : ev (.tmp 30) = .pointer (some ⟨bA, off + q * 3, none⟩) := holds_valF (hx (.tmp 30)) (by kernel_rfl)
        simp [execOp, e30, go_sem]
      · refine OblF.pure rfl (.int .u32 (xo : Int)) (by kernel_rfl) rfl fun ev W hI hf hx => ?_
        have e31 : ev (.tmp 31) = .pointer (some ⟨bA, off + q * 3, none⟩) := holds_valF (hx (.tmp 31)) (by kernel_rfl)
        obtain ⟨_, _, ea, _, d0, d1, d2⟩ := (HRT.out W hI.2).at hql
        injection ea with ea
        injection ea with ea1 ea2
        subst ea1
        subst ea2
        rw [HX.out.1] at d0
        simp [execOp, e31, go_sem, d0]
      · refine OblF.pure rfl (.int .u32 (yo : Int)) (by kernel_rfl) rfl fun ev W hI hf hx => ?_
        have e32 : ev (.tmp 32) = .int .u32 (xo : Int) := holds_valF (hx (.tmp 32)) (by kernel_rfl)
        have k1 : ev (.const (.int .u32 7)) = .int .u32 7 := holds_valF (hx (.const (.int .u32 7))) (by kernel_rfl)
        simp [execOp, e32, k1, go_sem, HY.out.1]
      · exact OblF.move rfl _ (Or.inl rfl) (by kernel_rfl) rfl
      · exact OblF.move rfl _ (Or.inl rfl) (by kernel_rfl) rfl
      · refine OblF.pure rfl (.pointer (some ⟨bA, off + q * 3, none⟩)) (by kernel_rfl) rfl fun ev W hI hf hx => ?_
        have e34 : ev (.tmp 34) = .slice (some ⟨bA, off, none⟩) kr cr := holds_valF (hx (.tmp 34)) (by kernel_rfl)
        have e35 : ev (.tmp 35) = .int .i64 (q : Int) := holds_valF (hx (.tmp 35)) (by kernel_rfl)
        simp [execOp, e34, e35, go_sem, hq3, hq4]
      · refine OblF.pure rfl (.pointer (some ⟨bA, off + q * 3 + 1, none⟩)) (by kernel_rfl) rfl fun ev W hI hf hx => ?_
        have e36 : ev (.tmp 36) = .pointer (some ⟨bA, off + q * 3, none⟩) := holds_valF (hx (.tmp 36)) (by kernel_rfl)
        simp [execOp, e36, go_sem]
      · refine OblF.pure rfl (.int .u64 (xr : Int)) (by kernel_rfl) rfl fun ev W hI hf hx => ?_
        have e37 : ev (.tmp 37) = .pointer (some ⟨bA, off + q * 3 + 1, none⟩) := holds_valF (hx (.tmp 37)) (by kernel_rfl)
        obtain ⟨_, _, ea, _, d0, d1, d2⟩ := (HRT.out W hI.2).at hql
        injection ea with ea
        injection ea with ea1 ea2
        subst ea1
        subst ea2
        rw [HX.out.2.1] at d1
        simp [execOp, e37, go_sem, d1]
      · refine OblF.pure rfl (.int .u64 (yr : Int)) (by kernel_rfl) rfl fun ev W hI hf hx => ?_
        have e38 : ev (.tmp 38) = .int .u64 (xr : Int) := holds_valF (hx (.tmp 38)) (by kernel_rfl)
        have k1 : ev (.const (.int .u64 4095)) = .int .u64 4095 := holds_valF (hx (.const (.int .u64 4095))) (by kernel_rfl)
        simp [execOp, e38, k1, go_sem, HY.out.2.1]
      · exact OblF.move rfl _ (Or.inl rfl) (by kernel_rfl) rfl
      · exact OblF.move rfl _ (Or.inl rfl) (by kernel_rfl) rfl
      · refine OblF.pure rfl (.pointer (some ⟨bA, off + q * 3, none⟩)) (by kernel_rfl) rfl fun ev W hI hf hx => ?_
        have e40 : ev (.tmp 40) = .slice (some ⟨bA, off, none⟩) kr cr := holds_valF (hx (.tmp 40)) (by kernel_rfl)
        have e41 : ev (.tmp 41) = .int .i64 (q : Int) := holds_valF (hx (.tmp 41)) (by kernel_rfl)
        simp [execOp, e40, e41, go_sem, hq3, hq4]
      · refine OblF.pure rfl (.pointer (some ⟨bA, off + q * 3 + 2, none⟩)) (by kernel_rfl) rfl fun ev W hI hf hx => ?_
        have e42 : ev (.tmp 42) = .pointer (some ⟨bA, off + q * 3, none⟩) := holds_valF (hx (.tmp 42)) (by kernel_rfl)
        simp [execOp, e42, go_sem]
      · refine OblF.pure rfl (.int .i64 xv) (by kernel_rfl) rfl fun ev W hI hf hx => ?_
        have e43 : ev (.tmp 43) = .pointer (some ⟨bA, off + q * 3 + 2, none⟩) := holds_valF (hx (.tmp 43)) (by kernel_rfl)
        obtain ⟨_, _, ea, _, d0, d1, d2⟩ := (HRT.out W hI.2).at hql
        injection ea with ea
        injection ea with ea1 ea2
        subst ea1
        subst ea2
        rw [HX.out.2.2] at d2
        simp [execOp, e43, go_sem, d2]
      · refine OblF.pure rfl (.int .i64 (yv : Int)) (by kernel_rfl) rfl fun ev W hI hf hx => ?_
        have e44 : ev (.tmp 44) = .int .i64 xv := holds_valF (hx (.tmp 44)) (by kernel_rfl)
        have k1 : ev (.const (.int .i64 63)) = .int .i64 63 := holds_valF (hx (.const (.int .i64 63))) (by kernel_rfl)
        simp [execOp, e44, k1, go_sem, HY.out.2.2.1]
      · refine OblF.pure rfl (.agg #[.int .u32 (yo : Int), .int .u64 (yr : Int), .int .i64 (yv : Int)]) (by kernel_rfl) rfl fun ev W hI hf hx => ?_
        have e33 : ev (.tmp 33) = .int .u32 (yo : Int) := holds_valF (hx (.tmp 33)) (by kernel_rfl)
        have e39 : ev (.tmp 39) = .int .u64 (yr : Int) := holds_valF (hx (.tmp 39)) (by kernel_rfl)
        have e45 : ev (.tmp 45) = .int .i64 (yv : Int) := holds_valF (hx (.tmp 45)) (by kernel_rfl)
        simp [execOp, e33, e39, e45, go_sem]
      · refine OblF.step rfl fun ev W hI hf hx => ?_
        have e31 : ev (.tmp 46) = .agg #[.int .u32 (yo : Int), .int .u64 (yr : Int), .int .i64 (yv : Int)] := holds_valF (hx (.tmp 46)) (by kernel_rfl)
        have hbW := belowA W (.cells #[.int .u32 (yo : Int), .int .u64 (yr : Int), .int .i64 (yv : Int)] 30)
        refine ⟨.slice (some ⟨W.heap.size, 0, none⟩) 1 1, W.alloc (.cells #[.int .u32 (yo : Int), .int .u64 (yr : Int), .int .i64 (yv : Int)] 30), ?_, ?_, hbW, ?_⟩
        · simp [execOp, e31, go_sem]
        · exact ⟨hI.1.on hbW, hI.2.trans (hbW.mono hI.2.size)⟩
        · exact ⟨W.heap.size, rfl, (one_rt W ⟨yo, yr, yv⟩ HIN.out).more (by simp)⟩
      intro aa W hI hf hsz hdf hold hv
      have v27 : aa.tmps.getD 27 undef = .slice AS q cS := holds_valF (hv 0 (by decide)) (by kernel_rfl)
      obtain ⟨g47, v47, r47⟩ := tlC_of (yo := yo) (yr := yr) (yv := yv) (hv 20 (by decide)) (by kernel_rfl)
      have v47' : aa.tmps.getD 47 undef = .slice (some ⟨g47, 0, none⟩) 1 1 := v47
      have ha := act_puts [27, 28, 29, 30, 31, 32, 33, 34, 35, 36, 37, 38, 39, 40, 41, 42, 43, 44, 45, 46, 47, 48, 10] (by kernel_rfl) hsz hdf hold
      simp only [putAll, v27, v47'] at ha
      generalize aa.tmps.getD 28 undef = x28 at ha
      generalize aa.tmps.getD 29 undef = x29 at ha
      generalize aa.tmps.getD 30 undef = x30 at ha
      generalize aa.tmps.getD 31 undef = x31 at ha
      generalize aa.tmps.getD 32 undef = x32 at ha
      generalize aa.tmps.getD 33 undef = x33 at ha
      generalize aa.tmps.getD 34 undef = x34 at ha
      generalize aa.tmps.getD 35 undef = x35 at ha
      generalize aa.tmps.getD 36 undef = x36 at ha
      generalize aa.tmps.getD 37 undef = x37 at ha
      generalize aa.tmps.getD 38 undef = x38 at ha
      generalize aa.tmps.getD 39 undef = x39 at ha
      generalize aa.tmps.getD 40 undef = x40 at ha
      generalize aa.tmps.getD 41 undef = x41 at ha
      generalize aa.tmps.getD 42 undef = x42 at ha
      generalize aa.tmps.getD 43 undef = x43 at ha
      generalize aa.tmps.getD 44 undef = x44 at ha
      generalize aa.tmps.getD 45 undef = x45 at ha
      generalize aa.tmps.getD 46 undef = x46 at ha
      generalize aa.tmps.getD 48 undef = x48 at ha
      generalize aa.tmps.getD 10 undef = x10 at ha
      clear v27 v47 v47' hv hold hsz hdf
      subst ha
      simp only [List.toList_toArray, List.drop_succ_cons, List.drop_zero, Act.put, List.setIfInBounds_toArray, List.set_cons_succ, List.set_cons_zero]
      obtain ⟨oA, bA9⟩ := hI
      have sA := bA9.size
      have HLn := Lib.hid (show S.length + 1 ≤ 4398046511104 by have := HSI.out.2; omega)
      clear hf hown hbw HOB
      go_wp2_with (at_builtin; go_loud (with_reducible refine wpList_appendTp rfl (.tmp 27) (.tmp 47) rfl rfl w1.heap.size (.slice AS q cS) S (by with_unfolding_all rfl) oA _ _ 1 1 [⟨yo, yr, yv⟩] (by with_unfolding_all rfl) r47 HLn.out sA ?_); intro v9 w9 ha9)
      have b9 := below_grown bA9 sA ha9.2 (fun kk hkk => (World.ownsRow.lt oA kk hkk).1)
      have HRN := Lib.hid (show OwnTp w9 w1.heap.size v9 (S ++ [⟨yo, yr, yv⟩]) ∧ (∀ x ∈ S ++ [⟨yo, yr, (yv : Int)⟩], x.In) ∧ (S ++ [(⟨yo, yr, yv⟩ : Tup)]).length = q + 1 ∧ Below w1.heap.size w1 w9 from ⟨ha9.1, fun x hx => by
        rcases List.mem_append.1 hx with h1 | h1
        · exact HSI.out.1 x h1
        · rw [List.mem_singleton] at h1
          subst h1
          exact HIN.out, by rw [List.length_append, HSI.out.2]; rfl, b9⟩)
      clear ha9 oA r47 bA9 b9 sA
      go_roundw
      case rel => exact ⟨q + 1, _, _, rfl, by omega, by go_num, HRN⟩
      case measure => simp [intOf]; omega
    · have g1 : decide ((q : Int) < (kr : Int)) = false := by simp; omega
      have hqn' : q = kr := by omega
      subst hqn'
      obtain ⟨hown, hSi, hSl, hbw⟩ := HS.out
      obtain ⟨AS, cS, hv, hra, _⟩ := hown.rt hSi
      rw [hSl] at hv hra
      subst hv
      have HS2 := Lib.hid (⟨hra, hSl, hbw⟩ : _ ∧ _ ∧ _)
      clear hown hSi hSl hra HS hbw g1
      obtain ⟨hp1, hp2, hp3⟩ := HP.out
      have hb0 := HB1.out.trans (HS2.out.2.2.mono HB1.out.size)
      have hbl := Lib.hid (⟨hb0, HS2.out.2.2⟩ : _ ∧ _)
      clear hb0
      go_wp2_with fail
      ((with_reducible refine (same13_any (HL.out.1.on hbl.out.2) (by omega) (by omega)).mono ?_); rintro e w2 ⟨rfl, d2⟩)
      have h2 := Lib.hid (⟨hbl.out.1.trans (d2.mono hbl.out.1.size), hbl.out.2.trans (d2.mono hbl.out.2.size), d2⟩ : _ ∧ _ ∧ _)
      clear d2 hp1
      go_wp2_with fail
      ((with_reducible refine (same13_any (HRT.out _ h2.out.2.1) (by omega) HN.out.2.2).mono ?_); rintro e w3 ⟨rfl, d3⟩)
      have h3 := Lib.hid (⟨h2.out.1.trans (d3.mono h2.out.1.size), h2.out.2.1.trans (d3.mono h2.out.2.1.size), h2.out.2.2.trans (d3.mono h2.out.2.2.size)⟩ : _ ∧ _ ∧ _)
      clear d3 h2
      go_wp2_with fail
      ((with_reducible refine (same13_any (HS2.out.1.on h3.out.2.2) (by omega) (by omega)).mono ?_); rintro e w4 ⟨rfl, d4⟩)
      have h4 := Lib.hid (⟨h3.out.1.trans (d4.mono h3.out.1.size), h3.out.2.1.trans (d4.mono h3.out.2.1.size), h3.out.2.2.trans (d4.mono h3.out.2.2.size)⟩ : _ ∧ _ ∧ _)
      have oL := HOL.out.on h4.out.2.1
      have rS := HS2.out.1.on h4.out.2.2
      have HLn := Lib.hid (show ML.length + q ≤ 4398046511104 by have := HL.out.2.1; omega)
      have sW := h4.out.1.size
      have HIA : Hid (∀ x ∈ ML ++ S, x.In) := Lib.hid (fun x hx => by
        rcases List.mem_append.1 hx with h | h
        · exact (HL.out.2.2 x h).in_
        · exact HS2.out.1.2.1 x h)
      clear d4 h3 hp2
      go_wp2_with (at_builtin; go_loud ((with_reducible refine wpList_appendTp_w (by with_unfolding_all rfl) (.tmp 66) (.tmp 67) rfl rfl w.heap.size (.slice AL k1 cL) ML (by with_unfolding_all rfl) oL _ _ q cS S (by with_unfolding_all rfl) rS HLn.out sW ?_); intro v9 w9 ha9; obtain ⟨A9, c9, e9, r9, _⟩ := ha9.1.rt HIA.out; obtain ⟨m9, hm9⟩ : ∃ m, m = (ML ++ S).length := ⟨_, rfl⟩; rw [← hm9] at e9 r9; subst e9; have H9 := Lib.hid (⟨ha9, r9, hm9⟩ : _ ∧ _ ∧ _); clear ha9 r9 hm9))
      have h9 := Lib.hid (below_grown h4.out.1 sW H9.out.1.2 (fun kk hkk => (World.ownsRow.lt oL kk hkk).1))
      have hm9 : m9 ≤ 100000 := by have h5 := H9.out.2.2; have h6 := HL.out.2.1; have h7 := HS2.out.2.1; rw [List.length_append] at h5; omega
      clear oL rS sW
      ((with_reducible refine (same13_any H9.out.2.1 hm9 (by omega)).mono ?_); rintro e w5 ⟨rfl, d5⟩)
      have h10 := Lib.hid (h9.out.trans (d5.mono h9.out.size))
      clear d5
      go_wp2_with fail
      ((with_reducible refine (known13_any _).mono ?_); rintro e w6 ⟨rfl, d6⟩)
      have h11 := Lib.hid (h10.out.trans (d6.mono h10.out.size))
      clear d6
      go_wp2_with fail
      go_ret
      exact ⟨rfl, h11.out⟩
end Go.Proofs.Ytlbndhbfmjefeaa
