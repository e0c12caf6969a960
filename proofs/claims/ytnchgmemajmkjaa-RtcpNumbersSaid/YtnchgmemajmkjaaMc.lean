/- Contracts: rtcp.paired, readWords; slices.Clone of words. Contracts: rtcp.readPli, readRemb. Contract: rtcp.readTuples. Contract: rtcp.readFir. -/
import Derived.Test.YtnchgmemajmkjaaMk
import Derived.Test.YtnchgmemajmkjaaMa
import Derived.Test.YtnchgmemajmkjaaRcQ
import Derived.Test.YtnchgmemajmkjaaRcD
import Derived.Lib.SliceRun
import Derived.Test.YtnchgmemajmkjaaRcX
import Derived.Test.YtnchgmemajmkjaaRcF
import Derived.Test.YtnchgmemajmkjaaRegS
namespace Go.Proofs.Ytnchgmemajmkjaa
open Go.RowKit
set_option linter.unusedVariables false
set_option linter.unusedSimpArgs false
set_option maxRecDepth 20000

def prB (ws : List Nat) : Bool := decide (2 ≤ ws.length) && (decide (ws.length % 2 = 0) && decide (ws.getD 1 0 = 0))
theorem R32.getD_at {w : World} {B : Nat} {A : Option Addr} {n c : Nat} {l : List Nat} (h : R32 w B A n c l) {q : Nat} (hq : q < n) : ∃ b off, A = some ⟨b, off, none⟩ ∧ b < B ∧ w.cell? ⟨b, off + q, none⟩ = some (.int .u32 (l.getD q 0 : Int)) := by
  have hql : q < l.length := by rw [h.1]; exact hq
  obtain ⟨b, off, e, hb, hc⟩ := h.at hql
  refine ⟨b, off, e, hb, ?_⟩
  rw [hc, List.getD_eq_getElem?_getD, List.getElem?_eq_getElem hql]
  rfl
theorem paired_any (A : Option Addr) (n c : Nat) (ws : List Nat) (w : World) (h : R32 w w.heap.size A n c ws) : Calls Try.prog 81 #[.slice A n c] w (AnsS (.bool (prB ws)) w) := by
  have hl := h.1
  by_cases l1 : 2 ≤ n
  rotate_left
  · have e : prB ws = false := by unfold prB; rw [decide_eq_false (by omega)]; rfl
    rw [e]
    have g : decide ((2 : Int) ≤ (n : Int)) = false := by simp only [decide_eq_false_iff_not]; omega
    clear e h hl l1
    go_enter Try.func81, Try.ntmps81
    go_wp2_with fail
    go_ret
    exact ⟨rfl, rfl⟩
  have g : decide ((2 : Int) ≤ (n : Int)) = true := by simp only [decide_eq_true_eq]; omega
  by_cases l2 : n % 2 = 0
  rotate_left
  · have e : prB ws = false := by unfold prB; rw [decide_eq_false (p := ws.length % 2 = 0) (by omega)]; simp
    rw [e]
    have g2 : ((n : Int) % 2 == 0) = false := by simp; omega
    clear e h hl l1 l2
    go_enter Try.func81, Try.ntmps81
    go_wp2_with fail
    go_ret
    exact ⟨rfl, rfl⟩
  have g2 : ((n : Int) % 2 == 0) = true := by simp; omega
  obtain ⟨b, off, rfl, hb, c1⟩ := h.getD_at (q := 1) (by omega)
  have e : prB ws = decide (ws.getD 1 0 = 0) := by unfold prB; rw [decide_eq_true (by omega), decide_eq_true (by omega)]; simp
  rw [e]
  have g3 : (1 : Int) < (n : Int) := by omega
  have g4 : 1 < n := by omega
  clear e h hl l2
  generalize ws.getD 1 0 = x at c1 ⊢
  by_cases hx : x = 0
  · subst hx
    go_enter Try.func81, Try.ntmps81
    go_wp2_with fail
    go_ret
    exact ⟨rfl, rfl⟩
  · rw [decide_eq_false hx]
    have g5 : ((x : Int) == 0) = false := by simp; omega
    clear hx
    go_enter Try.func81, Try.ntmps81
    go_wp2_with fail
    go_ret
    exact ⟨rfl, rfl⟩
theorem wsget_take {ws : List Nat} {q : Nat} (h : q < ws.length) : ws.take q ++ [ws.getD q 0] = ws.take (q + 1) := by
  rw [List.take_add_one, List.getElem?_eq_getElem h, List.getD_eq_getElem?_getD, List.getElem?_eq_getElem h]
  rfl
theorem lit1_r32 (a : Nat) (x : Int) (hx : x = (a : Int)) (ha : a < 4294967296) (V : World) (g : Nat) (hg : g = V.heap.size) :
    R32 (V.alloc (.cells #[.int .u32 x] 27)) (V.alloc (.cells #[.int .u32 x] 27)).heap.size (some ⟨g, 0, none⟩) 1 1 [a] := by
  subst hx
  exact lit_r32 [a] _ 1 g V hg rfl rfl (by intro z hz; simp at hz; omega)
/-- A row of words in new memory. -/
def NewWs (w : World) (l : List Nat) (e : Ending) (w' : World) : Prop := ∃ A c, e = .returned (.slice A l.length c) ∧ R32 w' w'.heap.size A l.length c l ∧ Below w.heap.size w w' ∧ ∀ ad, A = some ad → w.heap.size ≤ ad.block ∧ ad.block < w'.heap.size
set_option maxHeartbeats 1000000 in
theorem readWords_any (A : Option Addr) (n c : Nat) (ws : List Nat) (w : World) (h : R8 w w.heap.size A n c (wB ws)) (hw : Small ws) (hn : n ≤ 1000000) :
    Calls Try.prog 68 #[.slice A n c] w (NewWs w ws) := by
  have hwl : n = 4 * ws.length := by rw [← h.1, wB_len]; omega
  have HWL := Lib.hid hwl
  clear hwl
  go_enter Try.func68, Try.ntmps68
  go_wp2_with fail
  go_loopw [3, 4] (fun v iv wr => ∃ q p : Nat, Hid (p = 4 * q) ∧ p ≤ n ∧ iv = .int .i64 (p : Int) ∧ Own32 wr w.heap.size v (ws.take q) ∧ Below w.heap.size w wr) (fun _ iv _ => n - (intOf iv).toNat)
  case atStart => exact ⟨0, 0, Lib.hid rfl, by omega, rfl, Own32.nil _ _, Below.refl _ _⟩
  case round =>
    obtain ⟨q, p, HPQ, hp, rfl, ho, hbr⟩ := hrel
    by_cases hlt : p < n
    · have g3 : decide ((p : Int) < (n : Int)) = true := by simp; omega
      have hql : q < ws.length := by have := HPQ.out; have := HWL.out; omega
      have hget := get_any A n c (wB ws) wr (h.on hbr) (by omega) (p : Int) 4 (by unfold I64; omega)
      have hgw := get_w ws q hw
      have hpq : (4 * (q : Int)) = (p : Int) := by have := HPQ.out; omega
      rw [hpq] at hgw
      rw [hgw] at hget
      have hsm := hw.at q
      have htk := Lib.hid (wsget_take hql)
      have hll : (ws.take q).length ≤ 250000 := by have := HPQ.out; rw [List.length_take]; omega
      have hp4 : p + 4 ≤ n := by have := HPQ.out; have := HWL.out; omega
      generalize getB n (p : Int) 4 = ok at hget
      clear hgw hpq h
      generalize ws.getD q 0 = x at hget hsm htk
      generalize ws.take q = L at ho hll htk
      have hal := (Below.refl wr.heap.size wr).alloc (Nat.le_refl _) (.cells #[.int .u32 (x : Int)] 27)
      have ho5 := own32_kept ho hal
      have r5 := lit1_r32 x (x : Int) rfl hsm wr wr.heap.size rfl
      have b6 := hbr.trans (hal.mono hbr.size)
      have hs6 := b6.size
      have HBB := Lib.hid (show L.length + 1 ≤ 1000000 by omega)
      clear ho hll hal hbr
      go_wp2_with fail
      ((with_reducible refine hget.mono ?_); rintro e w1 ⟨rfl, rfl⟩)
      clear hget
      go_wp2_with (at_builtin; ((with_reducible refine wpList_append32 rfl (.tmp 19) (.tmp 22) rfl rfl w.heap.size _ L (by with_unfolding_all rfl) ho5 _ (some ⟨wr.heap.size, 0, none⟩) 1 1 [x] (by with_unfolding_all rfl) r5 HBB.out hs6 ?_); rintro v7 w7 ⟨o7, g7⟩))
      have b7 := below_grown b6 hs6 g7 (fun k hk => (World.ownsRow.lt ho5 k hk).1)
      rw [htk.out] at o7
      have HPQ2 : Hid (p + 4 = 4 * (q + 1)) := Lib.hid (by have := HPQ.out; omega)
      clear ho5 r5 b6 hs6 g7
      go_wp2_with fail
      go_roundw
      case rel => exact ⟨q + 1, p + 4, HPQ2, hp4, by go_num, o7, b7⟩
      case measure => simp [intOf]; omega
    · have g3 : ¬ (p : Int) < (n : Int) := by omega
      rw [List.take_of_length_le (by have := HPQ.out; have := HWL.out; omega)] at ho
      obtain ⟨A1, c1, rfl, r1⟩ := ho.r32 hw
      have hob := own_block ho
      clear h
      go_wp2_with fail
      go_ret
      exact ⟨A1, c1, rfl, r1, hbr, hob⟩
theorem own32_empty (w : World) (base : Nat) (hb : base ≤ w.heap.size) : Own32 (w.alloc (.cells #[] 27)) base (.slice (some ⟨w.heap.size, 0, none⟩) 0 0) [] := own32_lits w base [] #[] 0 rfl rfl (by omega) hb
set_option maxHeartbeats 1000000 in
theorem clone_any (A : Option Addr) (n c : Nat) (l : List Nat) (w : World) (h : R32 w w.heap.size A n c l) (hn : n ≤ 900000) :
    Calls Try.prog 83 #[.slice A n c] w (NewWs w l) := by
  rcases A with _ | ad
  · have h0 : n = 0 := by
      rcases Nat.eq_zero_or_pos n with h0 | h0
      · exact h0
      · obtain ⟨b, off, e, _⟩ := h.2.2.2 h0
        cases e
    subst h0
    have hl : l = [] := List.eq_nil_of_length_eq_zero h.1
    subst hl
    have hq : (binOp .eql 29 (.slice none 0 c) (.slice none 0 0)).run Try.prog w = .ok (.bool true) w := Lib.run_eql_slice_nil w 29 27 none 0 c 0 0 Try.underlying29
    go_enter Try.func83, Try.ntmps83
    go_wp2_with fail
    go_ret
    exact ⟨none, 0, rfl, R32.nil _ _ _ _, Below.refl _ _, fun _ e => by cases e⟩
  · have hL := h.1
    have oe := own32_empty w w.heap.size (Nat.le_refl _)
    have hal := (Below.refl w.heap.size w).alloc (Nat.le_refl _) (.cells #[] 27)
    have r5 := h.below hal
    have HBB := Lib.hid (show ([] : List Nat).length + n ≤ 1000000 by simp; omega)
    have hs := hal.size
    have hsm := h.2.2.1
    clear h
    have hq : (binOp .eql 29 (.slice (some ad) n c) (.slice none 0 0)).run Try.prog w = .ok (.bool false) w := Lib.run_eql_slice_nil w 29 27 (some ad) n c 0 0 Try.underlying29
    go_enter Try.func83, Try.ntmps83
    go_wp2_with (at_builtin; ((with_reducible refine wpList_append32 rfl (.tmp 5) (.tmp 6) rfl rfl w.heap.size _ [] (by with_unfolding_all rfl) oe w.heap.size (some ad) n c l (by with_unfolding_all rfl) r5 HBB.out hs ?_); rintro v7 w7 ⟨o7, g7⟩))
    have b7 := below_grown hal hs g7 (fun k hk => (World.ownsRow.lt oe k hk).1)
    rw [List.nil_append] at o7
    obtain ⟨A1, c1, rfl, r1⟩ := o7.r32 hsm
    have hob := own_block o7
    clear oe r5 g7 o7
    go_wp2_with fail
    go_ret
    exact ⟨A1, c1, rfl, r1, b7, hob⟩
end Go.Proofs.Ytnchgmemajmkjaa
namespace Go.Proofs.Ytnchgmemajmkjaa
open Go.RowKit
set_option linter.unusedVariables false
set_option linter.unusedSimpArgs false
set_option maxRecDepth 20000

/-- What is laid into the report at g: it reads as r, its slices are new. -/
def PutOut (w : World) (g : Nat) (r : Rep) (e : Ending) (w' : World) : Prop := ∃ x : Rv, e = .returned (.bool true) ∧ x.r = r ∧ Blk w' g 33 x.cells.toArray ∧ IsR w' w'.heap.size x ∧ x.Lies w.heap.size w'.heap.size ∧ Below g w w'
def PutNo (w : World) (g : Nat) (e : Ending) (w' : World) : Prop := e = .returned (.bool false) ∧ Below g w w'
/-- A report of a kind alone. -/
def kindCells (K : Int) : Array Value := #[.int .i64 K, .int .u32 0, .int .u32 0, .slice none 0 0, .slice none 0 0, .slice none 0 0, .int .u64 0, .int .i64 0, .int .i64 0, .slice none 0 0]
theorem readPli_no (A : Option Addr) (n c : Nat) (g : Nat) (w : World) (hn : n ≠ 2) : Calls Try.prog 70 #[.slice A n c, .pointer (some ⟨g, 0, none⟩)] w (PutNo w g) := by
  have g1 : ((n : Int) != 2) = true := by simp; omega
  clear hn
  go_enter Try.func70, Try.ntmps70
  go_wp2_with fail
  go_ret
  exact ⟨rfl, Below.refl _ _⟩
set_option maxHeartbeats 2000000 in
theorem readPli_yes (A : Option Addr) (c : Nat) (ws : List Nat) (g : Nat) (w : World) (h : R32 w w.heap.size A 2 c ws) (hA : ∀ ad, A = some ad → ad.block ≠ g) (hZ : Blk w g 33 (kindCells 3)) :
    Calls Try.prog 70 #[.slice A 2 c, .pointer (some ⟨g, 0, none⟩)] w (PutOut w g ⟨3, ws.getD 0 0, ws.getD 1 0, [], [], [], 0, 0, 0, []⟩) := by
  obtain ⟨b, off, rfl, hb, c0⟩ := h.getD_at (q := 0) (by omega)
  obtain ⟨b', off', e', hb', c1⟩ := h.getD_at (q := 1) (by omega)
  injection e' with e'
  injection e' with e1 e2 _
  subst e1 e2
  have hne : b ≠ g := hA _ rfl
  have hs0 := h.2.2.1
  have s0 : ws.getD 0 0 < 4294967296 := Small.at hs0 0
  have s1 : ws.getD 1 0 < 4294967296 := Small.at hs0 1
  clear h hA hs0
  generalize ws.getD 0 0 = x0 at c0 s0 ⊢
  generalize ws.getD 1 0 = x1 at c1 s1 ⊢
  simp only [Nat.add_zero] at c0
  obtain ⟨y0, y1, y2, y3, y4, y5, y6, y7, y8, y9⟩ := blk10 hZ
  obtain ⟨f0, f1, f2, f3, f4, f5, f6, f7, f8, f9⟩ := frz10 hZ
  clear y0 y3 y4 y5 y6 y7 y8 y9 f0 f3 f4 f5 f6 f7 f8 f9
  go_enter Try.func70, Try.ntmps70
  go_wp2_with fail
  go_region
  go_wp2_with fail
  have hF := ((hZ.set_ 1 (.int .u32 (x0 : Int))).set_ 2 (.int .u32 (x1 : Int))).drewN 1
  have hG := Below.setCell (Below.setCell (Below.refl g w) (p := ⟨g, 1, none⟩) (Nat.le_refl _) (.int .u32 (x0 : Int))) (p := ⟨g, 2, none⟩) (Nat.le_refl _) (.int .u32 (x1 : Int))
  simp only [kindCells, List.setIfInBounds_toArray, List.set_cons_succ, List.set_cons_zero] at hF
  go_ret
  exact ⟨⟨⟨3, x0, x1, [], [], [], 0, 0, 0, []⟩, none, 0, none, 0, none, 0, none, 0⟩, rfl, rfl, hF, ⟨RT.nil _ _ _ _, R32.nil _ _ _ _, RN.nil _ _ _ _, R8.nil _ _ _ _, Rep.In.of (i64_small (by omega)) s0 s1 (by omega) (i64_small (by omega)) (i64_small (by omega)) (by simp) (by simp) (by simp) (by simp)⟩, (fun ad had => by rcases had with had | had | had | had <;> cases had), hG.drew⟩
theorem cutA_block {b off c i : Nat} {ad : Addr} (h : cutA (some ⟨b, off, none⟩) c i = some ad) : ad.block = b := by
  unfold cutA at h
  split at h
  · injection h with h
    rw [← h]
  · simp only [Option.map_some, Option.some.injEq] at h
    rw [← h]
    unfold Addr.add
    split <;> rfl
theorem run_from32 (w : World) (A : Option Addr) (n c k : Nat) (j : Int) (hj : j = (k : Int)) (hk : k ≤ n) (hn : n ≤ c) :
    (Instr.slice 29 (.slice A n c) (some (.int .i64 j)) none none).run Try.prog w = .ok (.slice (cutA A c k) (n - k) (c - k)) w := by
  subst hj
  have hs : (Try.prog.elem 29) = 27 := by simp [Program.elem, Try.underlying29]
  have h3 := run_slice_l (P := Try.prog) w 29 A n c (by rw [hs]; exact Try.underlying29) .i64 (k : Nat) (by omega) (by omega)
  rw [hs] at h3
  obtain ⟨i0, hi0, hz0, hz1, hz2⟩ := info_parts u32_info
  rw [h3]
  simp [sizeOf, typeInfo, hi0, hz1, sliced, Result.andThen, cutA]
theorem R32.cut {w : World} {B n c : Nat} {A : Option Addr} {l : List Nat} (h : R32 w B A n c l) (i : Nat) (hi : i ≤ n) : R32 w B (cutA A c i) (n - i) (c - i) (l.drop i) := by
  have hl := h.1
  have hc := h.2.1
  refine ⟨by simp; omega, by omega, fun x hx => h.2.2.1 x (List.mem_of_mem_drop hx), fun hn => ?_⟩
  obtain ⟨b, off, rfl, hb, hcell⟩ := h.2.2.2 (by omega)
  unfold cutA
  rw [if_neg (by omega)]
  refine ⟨b, off + i, ?_, hb, fun k hk => ?_⟩
  · simp only [Option.map_some, Addr.add]
    split <;> simp_all
  · rw [Nat.add_assoc, hcell (i + k) (by omega)]
    simp [List.getD, List.getElem?_drop]
def rmB (ws : List Nat) : Bool := decide (4 ≤ ws.length) && (decide (ws.getD 1 0 = 0) && (decide (ws.getD 2 0 = 1380273474) && decide (ws.getD 3 0 / 16777216 = ws.length - 4)))
set_option maxHeartbeats 2000000 in
theorem readRemb_no (A : Option Addr) (n c : Nat) (ws : List Nat) (g : Nat) (w : World) (h : R32 w w.heap.size A n c ws) (hn : n ≤ 250000) (hr : rmB ws = false) : Calls Try.prog 72 #[.slice A n c, .pointer (some ⟨g, 0, none⟩)] w (PutNo w g) := by
  have hl := h.1
  by_cases l1 : n < 4
  · have g1 : decide ((n : Int) < 4) = true := by simp only [decide_eq_true_eq]; omega
    clear h hl hr l1
    go_enter Try.func72, Try.ntmps72
    go_wp2_with fail
    go_ret
    exact ⟨rfl, Below.refl _ _⟩
  have g1 : decide ((n : Int) < 4) = false := by simp only [decide_eq_false_iff_not]; omega
  have b1 : (1 : Int) < (n : Int) := by omega
  have b2 : (2 : Int) < (n : Int) := by omega
  have b3 : (3 : Int) < (n : Int) := by omega
  have d1 : 1 < n := by omega
  have d2 : 2 < n := by omega
  have d3 : 3 < n := by omega
  obtain ⟨b, off, rfl, hb, c1⟩ := h.getD_at (q := 1) (by omega)
  obtain ⟨b', off', e', hb', c2⟩ := h.getD_at (q := 2) (by omega)
  obtain ⟨b'', off'', e'', hb'', c3⟩ := h.getD_at (q := 3) (by omega)
  injection e' with e'
  injection e' with e1 e2 _
  subst e1 e2
  injection e'' with e''
  injection e'' with e1 e2 _
  subst e1 e2
  have s3 : ws.getD 3 0 < 4294967296 := Small.at h.2.2.1 3
  unfold rmB at hr
  rw [hl, decide_eq_true (by omega), Bool.true_and] at hr
  clear h hl l1
  generalize ws.getD 1 0 = x1 at c1 hr
  generalize ws.getD 2 0 = x2 at c2 hr
  generalize ws.getD 3 0 = x3 at c3 hr s3
  by_cases l2 : x1 = 0
  rotate_left
  · have g2 : ((x1 : Int) != 0) = true := by simp; omega
    clear hr l2
    go_enter Try.func72, Try.ntmps72
    go_wp2_with fail
    go_ret
    exact ⟨rfl, Below.refl _ _⟩
  subst l2
  by_cases l3 : x2 = 1380273474
  rotate_left
  · have g2 : ((x2 : Int) != 1380273474) = true := by simp; omega
    clear hr l3
    go_enter Try.func72, Try.ntmps72
    go_wp2_with fail
    go_ret
    exact ⟨rfl, Below.refl _ _⟩
  subst l3
  have l4 : x3 / 16777216 ≠ n - 4 := by simpa using hr
  have g2 : ((x3 : Int) / 16777216 != (n : Int) - 4) = true := by simp; omega
  clear hr l4
  go_enter Try.func72, Try.ntmps72
  go_wp2_with fail
  go_ret
  exact ⟨rfl, Below.refl _ _⟩
set_option maxHeartbeats 2000000 in
theorem readRemb_yes (A : Option Addr) (n c : Nat) (ws : List Nat) (g : Nat) (w : World) (h : R32 w w.heap.size A n c ws) (hA : ∀ ad, A = some ad → ad.block ≠ g) (hn : n ≤ 250000) (hr : rmB ws = true) (hZ : Blk w g 33 (kindCells 5)) :
    Calls Try.prog 72 #[.slice A n c, .pointer (some ⟨g, 0, none⟩)] w (PutOut w g ⟨5, ws.getD 0 0, 0, [], ws.drop 4, [], opN (ws.getD 3 0 / 262144 % 64) (ws.getD 3 0 % 262144), 0, 0, []⟩) := by
  have hl := h.1
  unfold rmB at hr
  simp only [Bool.and_eq_true, decide_eq_true_eq] at hr
  obtain ⟨r1, r2, r3, r4⟩ := hr
  have g1 : decide ((n : Int) < 4) = false := by simp only [decide_eq_false_iff_not]; omega
  have b0 : (0 : Int) < (n : Int) := by omega
  have b1 : (1 : Int) < (n : Int) := by omega
  have b2 : (2 : Int) < (n : Int) := by omega
  have b3 : (3 : Int) < (n : Int) := by omega
  have d0 : 0 < n := by omega
  have d1 : 1 < n := by omega
  have d2 : 2 < n := by omega
  have d3 : 3 < n := by omega
  obtain ⟨b, off, rfl, hb, c0⟩ := h.getD_at (q := 0) (by omega)
  obtain ⟨b', off', e', hb', c1⟩ := h.getD_at (q := 1) (by omega)
  injection e' with e'
  injection e' with e1 e2 _
  subst e1 e2
  obtain ⟨b', off', e', hb', c2⟩ := h.getD_at (q := 2) (by omega)
  injection e' with e'
  injection e' with e1 e2 _
  subst e1 e2
  obtain ⟨b', off', e', hb', c3⟩ := h.getD_at (q := 3) (by omega)
  injection e' with e'
  injection e' with e1 e2 _
  subst e1 e2
  have s0 : ws.getD 0 0 < 4294967296 := Small.at h.2.2.1 0
  have s3 : ws.getD 3 0 < 4294967296 := Small.at h.2.2.1 3
  rw [r2] at c1
  rw [r3] at c2
  have hne : b ≠ g := hA _ rfl
  have hcut := h.cut 4 (by omega)
  have hrun := fun W => run_from32 W (some ⟨b, off, none⟩) n c 4 4 rfl (by omega) h.2.1
  have hdl : (ws.drop 4).length = n - 4 := by rw [List.length_drop, hl]
  rw [hl] at r4
  clear h hA r1 r2 r3 hl
  generalize ws.drop 4 = ab at hcut hdl ⊢
  generalize ws.getD 0 0 = x0 at c0 s0 ⊢
  generalize ws.getD 3 0 = x3 at c3 r4 s3 ⊢
  simp only [Nat.add_zero] at c0
  have hE1 := and32 6 (by omega) (x3 / 262144) (by omega) 63 rfl
  have hM1 := and32 18 (by omega) x3 s3 262143 rfl
  have hE64 : x3 / 262144 % 2 ^ 6 < 64 := by omega
  have hM64 : x3 % 2 ^ 18 < 262144 := by omega
  have hro : opR ((x3 / 262144 % 2 ^ 6 : Nat) : Int) (x3 % 2 ^ 18) 18 = opN (x3 / 262144 % 64) (x3 % 262144) := by
    unfold opR
    rw [if_pos ⟨by omega, by omega, by simpa using hM64⟩]
    rfl
  have hop : ∀ W, Calls Try.prog 82 #[.int .i64 ((x3 / 262144 % 2 ^ 6 : Nat) : Int), .int .u32 ((x3 % 2 ^ 18 : Nat) : Int), .int .i64 18] W (AnsS (.int .u64 (opR ((x3 / 262144 % 2 ^ 6 : Nat) : Int) (x3 % 2 ^ 18) 18 : Int)) W) := fun W => rate_open_s _ _ 18 W (by omega)
  rw [hro] at hop
  have hR : opN (x3 / 262144 % 64) (x3 % 262144) < 18446744073709551616 := by unfold opN; omega
  generalize opN (x3 / 262144 % 64) (x3 % 262144) = R at hop hR ⊢
  have hs18 : ((x3 : Int) / 262144) = ((x3 / 262144 : Nat) : Int) := by simp
  have hs24 : ((x3 : Int) / 16777216) = (n : Int) - 4 := by omega
  have g2 : ((x3 : Int) / 16777216 != (n : Int) - 4) = false := by simp; omega
  generalize x3 / 262144 % 2 ^ 6 = E at hE1 hE64 hop
  generalize x3 / 262144 = S at hs18 hE1
  generalize x3 % 2 ^ 18 = M at hM1 hM64 hop
  have HS := Lib.hid hs18
  have HE := Lib.hid hE1
  have HM := Lib.hid hM1
  have HRUN := Lib.hid hrun
  have HDL := Lib.hid hdl
  clear hs18 hE1 hM1 r4 hs24 hrun hro hdl
  obtain ⟨y0, y1, y2, y3, y4, y5, y6, y7, y8, y9⟩ := blk10 hZ
  obtain ⟨f0, f1, f2, f3, f4, f5, f6, f7, f8, f9⟩ := frz10 hZ
  clear y0 y2 y3 y5 y7 y8 y9 f0 f2 f3 f5 f7 f8 f9
  go_enter Try.func72, Try.ntmps72
  go_upto_region 3 with (fail)
  clear g2 c1 c2
  go_upto_region 4 with (fail)
  have e5 : wrap64 (bits .and .u32 ((x3 : Int) / 262144) 63) = (E : Int) := by rw [HS.out, HE.out]; exact wrap_i64 (by unfold I64; omega)
  rw [e5]
  clear e5
  go_upto_region 5 with (fail)
  have hg := hZ.lt
  have bn1 := but_setCell w g 1 (.int .u32 (x0 : Int))
  have bG1 := Below.setCell (Below.refl g w) (p := ⟨g, 1, none⟩) (Nat.le_refl _) (.int .u32 (x0 : Int))
  have c31 : (w.setCell ⟨g, 1, none⟩ (.int .u32 (x0 : Int))).cell? ⟨b, off + 3, none⟩ = some (.int .u32 (x3 : Int)) := by
    rw [World.cell?_setCell_other _ _ _ _ (by intro e; have := congrArg Addr.block e; simp at this; omega)]
    exact c3
  have hZ1 := hZ.set_ 1 (.int .u32 (x0 : Int))
  have hct1 := hcut.but bn1 (fun ad e => by rw [cutA_block e]; exact hne)
  simp only [kindCells, List.setIfInBounds_toArray, List.set_cons_succ, List.set_cons_zero] at hZ1
  clear y1 f1 y4 f4 y6 f6 c0 c3 hcut hZ
  have hsz1 : w.heap.size ≤ (w.setCell ⟨g, 1, none⟩ (.int .u32 (x0 : Int))).heap.size := bn1.size
  generalize w.setCell ⟨g, 1, none⟩ (.int .u32 (x0 : Int)) = W1 at bn1 bG1 c31 hZ1 hct1 hsz1 ⊢
  obtain ⟨y0, y1, y2, y3, y4, y5, y6, y7, y8, y9⟩ := blk10 hZ1
  obtain ⟨f0, f1, f2, f3, f4, f5, f6, f7, f8, f9⟩ := frz10 hZ1
  clear y0 y1 y2 y3 y5 y7 y8 y9 f0 f1 f2 f3 f5 f7 f8 f9
  go_wp2_with fail
  rw [HM.out]
  ((with_reducible refine (hop _).mono ?_); rintro e w3 ⟨rfl, rfl⟩)
  clear hop
  go_upto_region 6 with (fail)
  have bn2 := but_setCell W1 g 6 (.int .u64 (R : Int))
  have bG2 := Below.setCell bG1 (p := ⟨g, 6, none⟩) (Nat.le_refl _) (.int .u64 (R : Int))
  have hZ2 := hZ1.set_ 6 (.int .u64 (R : Int))
  have hcA : ∀ ad, cutA (some ⟨b, off, none⟩) c 4 = some ad → ad.block ≠ g := fun ad e => by rw [cutA_block e]; exact hne
  have hct2 := hct1.but bn2 hcA
  have hsz2 : w.heap.size ≤ (W1.setCell ⟨g, 6, none⟩ (.int .u64 (R : Int))).heap.size := Nat.le_trans hsz1 bn2.size
  simp only [List.setIfInBounds_toArray, List.set_cons_succ, List.set_cons_zero] at hZ2
  clear y4 f4 y6 f6 c31 hZ1 hct1 bG1 bn1
  generalize W1.setCell ⟨g, 6, none⟩ (.int .u64 (R : Int)) = W2 at bn2 bG2 hZ2 hct2 hsz2 ⊢
  have hrun := HRUN.out W2
  have hcl := clone_any _ _ _ _ W2 hct2 (by omega)
  have hg2 := hZ2.lt
  clear bn2
  go_wp2_with fail
  ((with_reducible refine hcl.mono ?_); rintro e w4 ⟨A4, c4, rfl, r4, b4, lo4⟩)
  have hZ4 := hZ2.below b4 hg2
  have bG4 := bG2.trans (b4.mono (Nat.le_of_lt hg2))
  obtain ⟨y0, y1, y2, y3, y4, y5, y6, y7, y8, y9⟩ := blk10 hZ4
  obtain ⟨f0, f1, f2, f3, f4, f5, f6, f7, f8, f9⟩ := frz10 hZ4
  have hsz4 := b4.size
  clear y0 y1 y2 y3 y5 y6 y7 y8 y9 f0 f1 f2 f3 f5 f6 f7 f8 f9 hcl hrun hct2 hZ2 b4
  go_wp2_with fail
  have hF := hZ4.set_ 4 (.slice A4 ab.length c4)
  have hG := Below.setCell bG4 (p := ⟨g, 4, none⟩) (Nat.le_refl _) (.slice A4 ab.length c4)
  have bn5 := but_setCell w4 g 4 (.slice A4 ab.length c4)
  have hX : IsR w4 w4.heap.size ⟨⟨5, x0, 0, [], ab, [], R, 0, 0, []⟩, none, 0, A4, c4, none, 0, none, 0⟩ := ⟨RT.nil _ _ _ _, r4, RN.nil _ _ _ _, R8.nil _ _ _ _, Rep.In.of (i64_small (by omega)) s0 (by omega) hR (i64_small (by omega)) (i64_small (by omega)) (by simp) (by have := HDL.out; omega) (by simp) (by simp)⟩
  have hlow : Rv.Lies ⟨⟨5, x0, 0, [], ab, [], R, 0, 0, []⟩, none, 0, A4, c4, none, 0, none, 0⟩ w.heap.size w4.heap.size := by
    intro ad had
    rcases had with had | had | had | had
    · cases had
    · exact ⟨by have := (lo4 ad had).1; omega, (lo4 ad had).2⟩
    · cases had
    · cases had
  have hX5 := hX.but bn5 (fun ad had e => by have := (hlow ad had).1; have := (lo4 ad (by rcases had with had | had | had | had <;> first | exact had | cases had)).1; omega)
  have hs5 : (w4.setCell ⟨g, 4, none⟩ (.slice A4 ab.length c4)).heap.size = w4.heap.size := by simp [World.setCell]
  rw [← hs5] at hlow
  simp only [List.setIfInBounds_toArray, List.set_cons_succ, List.set_cons_zero] at hF
  clear hs5
  generalize w4.setCell ⟨g, 4, none⟩ (.slice A4 ab.length c4) = W5 at hF hG hX5 hlow ⊢
  go_ret
  exact ⟨⟨⟨5, x0, 0, [], ab, [], R, 0, 0, []⟩, none, 0, A4, c4, none, 0, none, 0⟩, rfl, rfl, hF, hX5, hlow, hG⟩
end Go.Proofs.Ytnchgmemajmkjaa
namespace Go.Proofs.Ytnchgmemajmkjaa
open Go.RowKit
set_option linter.unusedVariables false
set_option linter.unusedSimpArgs false
set_option maxRecDepth 20000

theorem readTuples_no (A : Option Addr) (n c : Nat) (ws : List Nat) (g : Nat) (w : World) (h : R32 w w.heap.size A n c ws) (hr : prB ws = false) : Calls Try.prog 69 #[.slice A n c, .pointer (some ⟨g, 0, none⟩)] w (PutNo w g) := by
  have hp := paired_any A n c ws w h
  rw [hr] at hp
  clear h hr
  go_enter Try.func69, Try.ntmps69
  go_wp2_with fail
  ((with_reducible refine hp.mono ?_); rintro e w1 ⟨rfl, rfl⟩)
  go_wp2_with fail
  go_ret
  exact ⟨rfl, Below.refl _ _⟩
/-- A new tuple: in a block that is new in this region; the tuples' row. -/
def newT (base : Nat) (wr : World) (x : Tup) : ClF (firF base wr) := .pred (fun v W => ∃ g, v = .slice (some ⟨g, 0, none⟩) 1 1 ∧ wr.heap.size ≤ g ∧ RT W W.heap.size (some ⟨g, 0, none⟩) 1 1 [x]) (fun v a b _ hf _ h => by
  obtain ⟨g, e, hg, hr⟩ := h
  exact ⟨g, e, hg, hr.on hf⟩)
theorem newT_of {base : Nat} {wr : World} {x : Tup} {c : ClF (firF base wr)} {v : Value} {W : World} (h : c.holds v W) (e : c = newT base wr x) : ∃ g, v = .slice (some ⟨g, 0, none⟩) 1 1 ∧ wr.heap.size ≤ g ∧ RT W W.heap.size (some ⟨g, 0, none⟩) 1 1 [x] := by subst e; exact h
def rowT (base : Nat) (wr : World) (l : List Tup) : ClF (firF base wr) := .pred (fun v W => OwnT W base v l) (fun v a b _ hf _ h => own_keep h hf)
theorem rowT_of {base : Nat} {wr : World} {l : List Tup} {c : ClF (firF base wr)} {v : Value} {W : World} (h : c.holds v W) (e : c = rowT base wr l) : OwnT W base v l := by subst e; exact h
theorem newT_grown {wr W W' : World} {row : Option Nat} {g : Nat} {l : List Tup} (hg : W.grownBy W' row) (hrow : ∀ k, row = some k → k < wr.heap.size) (h0 : wr.heap.size ≤ g) (h1 : RT W W.heap.size (some ⟨g, 0, none⟩) 1 1 l) : RT W' W'.heap.size (some ⟨g, 0, none⟩) 1 1 l :=
  ⟨h1.1, h1.2.1, h1.2.2.1, h1.2.2.2.1, fun hn0 => by
    obtain ⟨b, off, e, hlt', hc⟩ := h1.2.2.2.2 hn0
    injection e with e
    injection e with e1 e2
    subst e1
    refine ⟨g, off, by rw [e2], by have := hg.size; omega, fun i v hi => ?_⟩
    rw [← hc i v hi]
    exact World.cell?_of_block (hg.block g hlt' fun e => by have := hrow g e.symm; omega)⟩
theorem run_appendT {w : World} (base : Nat) (v : Value) (l : List Tup) (hown : OwnT w base v l) (B : Nat) (A : Option Addr) (m c : Nat) (r : List Tup) (hr : RT w B A m c r) (hb : l.length + m ≤ 1000000) (hbase : base ≤ w.heap.size) :
    ∃ v' w', (Builtin.append_ #[28, 28] 28 #[v, .slice A m c]).run Try.prog w = .ok v' w' ∧ OwnT w' base v' (l ++ r) ∧ w.grownBy w' v.ownBlock := by
  obtain ⟨v', w', hrun, ha⟩ := run_appendX (w := w) base 28 28 57 (.agg #[.int .u32 0, .int .u64 0, .int .i64 0]) 3 24 Try.underlying28 tuple_info rfl (by omega) v l.length (cellsT l) hown B A m c (cellsT r) hr.2.2 (cellsT_one r) (by simp only [maxLen]; omega) (by omega) hbase
  exact ⟨v', w', hrun, by unfold OwnT; rw [List.length_append, hr.1, cellsT_append]; exact ha.1, ha.2.1⟩
/-- What stands while tuples are laid into the report at g. -/
structure TpAt (w : World) (g : Nat) (K : Int) (f : Nat) (A : Option Addr) (c : Nat) (l : List Tup) (wr : World) : Prop where
  but : But g w wr
  below : Below g w wr
  blk : Blk wr g 33 #[.int .i64 K, .int .u32 (f : Int), .int .u32 0, .slice A l.length c, .slice none 0 0, .slice none 0 0, .int .u64 0, .int .i64 0, .int .i64 0, .slice none 0 0]
  own : OwnT wr w.heap.size (.slice A l.length c) l
theorem TpAt.push {w : World} {g : Nat} {K : Int} {f : Nat} {A A' : Option Addr} {c c' : Nat} {l l' : List Tup} {wr W : World} (h : TpAt w g K f A c l wr) (hg : g < w.heap.size) (hI : (firF w.heap.size wr).I W) (ho : OwnT W w.heap.size (.slice A' l'.length c') l') :
    TpAt w g K f A' c' l' (W.setCell ⟨g, 3, none⟩ (.slice A' l'.length c')) := by
  have hb : Below w.heap.size wr W := hI.1
  have hs : wr.heap.size ≤ W.heap.size := hI.2
  refine ⟨⟨?_, fun k hk hne => ?_⟩, Below.setCell (h.below.trans (hb.mono (Nat.le_of_lt hg))) (p := ⟨g, 3, none⟩) (Nat.le_refl _) _, ?_, ?_⟩
  · have := h.but.size
    simp [World.setCell]
    omega
  · rw [Below.heap_setCell _ _ _ _ hne, hb.block k hk]
    exact h.but.block k hk hne
  · have := (h.blk.below hb hg).set_ 3 (.slice A' l'.length c')
    simpa only [List.setIfInBounds_toArray, List.set_cons_succ, List.set_cons_zero] using this
  · have hbt := but_setCell W g 3 (.slice A' l'.length c')
    exact own_but ho hbt.size hbt.block (fun e => by have := (World.ownsRow.lt ho _ e).1; omega)
set_option maxHeartbeats 4000000 in
theorem readTuples_yes (A : Option Addr) (n c : Nat) (ws : List Nat) (g : Nat) (K : Int) (w : World) (h : R32 w w.heap.size A n c ws) (hA : ∀ ad, A = some ad → ad.block ≠ g) (hn : n ≤ 250000) (hr : prB ws = true) (hK : K = 1 ∨ K = 2) (hZ : Blk w g 33 (kindCells K)) :
    Calls Try.prog 69 #[.slice A n c, .pointer (some ⟨g, 0, none⟩)] w (PutOut w g ⟨K, ws.getD 0 0, 0, tupsR ws, [], [], 0, 0, 0, []⟩) := by
  have hp := paired_any A n c ws w h
  rw [hr] at hp
  have hl := h.1
  unfold prB at hr
  simp only [Bool.and_eq_true, decide_eq_true_eq] at hr
  obtain ⟨r1, r2, r3⟩ := hr
  have hw : Small ws := h.2.2.1
  obtain ⟨b, off, rfl, hb, c0⟩ := h.getD_at (q := 0) (by omega)
  have hne : b ≠ g := hA _ rfl
  have s0 := hw.at 0
  have b0 : (0 : Int) < (n : Int) := by omega
  have d0 : 0 < n := by omega
  have h2n : 2 ≤ n := by omega
  have HL := Lib.hid hl
  have HEV := Lib.hid r2
  generalize hff : ws.getD 0 0 = f at c0 s0
  have HF0 := Lib.hid hff
  simp only [Nat.add_zero] at c0
  obtain ⟨y0, y1, y2, y3, y4, y5, y6, y7, y8, y9⟩ := blk10 hZ
  obtain ⟨f0, f1, f2, f3, f4, f5, f6, f7, f8, f9⟩ := frz10 hZ
  clear y0 y2 y3 y4 y5 y6 y7 y8 y9 f0 f2 f3 f4 f5 f6 f7 f8 f9 hl r1 r2 r3 hff hA
  have hZ1 := hZ.set_ 1 (.int .u32 (f : Int))
  have bn1 := but_setCell w g 1 (.int .u32 (f : Int))
  have bG1 := Below.setCell (Below.refl g w) (p := ⟨g, 1, none⟩) (Nat.le_refl _) (.int .u32 (f : Int))
  simp only [kindCells, List.setIfInBounds_toArray, List.set_cons_succ, List.set_cons_zero] at hZ1
  go_enter Try.func69, Try.ntmps69
  go_wp2_with fail
  ((with_reducible refine hp.mono ?_); rintro e w1 ⟨rfl, rfl⟩)
  clear hp
  go_upto_region 4 with (fail)
  have hP : TpAt w g K f none 0 [] (w.setCell ⟨g, 1, none⟩ (.int .u32 (f : Int))) := ⟨bn1, bG1, hZ1, World.ownsRow_nil _ _ _ _⟩
  clear hZ1 bn1 bG1 y1 f1 c0
  generalize w.setCell ⟨g, 1, none⟩ (.int .u32 (f : Int)) = W1 at hP ⊢
  go_wp2_with fail
  go_loopw [5, 6, 7] (fun iv _ _ wr => ∃ (q p : Nat) (Ar : Option Addr) (cr : Nat), Hid (p = 2 * q + 2) ∧ p ≤ n ∧ iv = .int .i64 (p : Int) ∧ TpAt w g K f Ar cr ((tupsR ws).take q) wr) (fun iv _ _ _ => n - (intOf iv).toNat)
  case atStart => exact ⟨0, 2, none, 0, Lib.hid rfl, h2n, rfl, by simpa using hP⟩
  case round =>
    obtain ⟨q, p, Ar, cr, HPQ, hpl, rfl, hP⟩ := hrel
    by_cases hlt : p < n
    · have g3 : decide ((p : Int) < (n : Int)) = true := by simp; omega
      have hp1 : p + 1 < n := by have := HPQ.out; have := HEV.out; have := HL.out; omega
      have hRr := h.but hP.but (fun ad e => by injection e with e; rw [← e]; exact hne)
      obtain ⟨y0, y1, y2, y3, y4, y5, y6, y7, y8, y9⟩ := blk10 hP.blk
      have f3 := hP.blk.frozen 3
      obtain ⟨b', off', e', hb', c1⟩ := hRr.getD_at (q := p) (by omega)
      injection e' with e'
      injection e' with e1 e2 _
      subst e1 e2
      obtain ⟨b', off', e', hb', c2⟩ := hRr.getD_at (q := p + 1) (by omega)
      injection e' with e'
      injection e' with e1 e2 _
      subst e1 e2
      have htk := tupsR_take HPQ.out (by rw [HL.out]; omega : p + 1 < ws.length)
      have hxa := hw.at p
      have hxb := hw.at (p + 1)
      have hin := tupR_in hxa hxb
      have hll : ((tupsR ws).take q).length ≤ 125000 := by
        rw [List.length_take, tupsR_len]
        have := HL.out
        omega
      have hsm : ∀ t ∈ (tupsR ws).take (q + 1), t.In := fun t ht => tupsR_in hw t (List.mem_of_mem_take ht)
      have HSM := Lib.hid hsm
      clear hsm hRr y0 y1 y2 y4 y5 y6 y7 y8 y9 hb'
      generalize ws.getD p 0 = xa at c1 htk hxa hin
      generalize ws.getD (p + 1) 0 = x at c2 htk hxb hin
      generalize (tupsR ws).take q = L at hP htk hll y3
      generalize hL2 : (tupsR ws).take (q + 1) = L2 at htk HSM
      have HL2 := Lib.hid hL2
      have HTK := Lib.hid htk
      have hE63 : x / 67108864 ≤ 63 := by omega
      have hM1 := and32 17 (by omega) (x / 512) (by omega) 131071 rfl
      have hM63 : x / 512 % 2 ^ 17 < 131072 := by omega
      have hO1 := and32 9 (by omega) x hxb 511 rfl
      have hO511 : x % 2 ^ 9 < 512 := by omega
      have hro : opR ((x / 67108864 : Nat) : Int) (x / 512 % 2 ^ 17) 17 = opN (x / 67108864) (x / 512 % 131072) := by
        unfold opR
        rw [if_pos ⟨by omega, by omega, by simpa using hM63⟩]
        rfl
      have hop : ∀ W, Calls Try.prog 82 #[.int .i64 ((x / 67108864 : Nat) : Int), .int .u32 ((x / 512 % 2 ^ 17 : Nat) : Int), .int .i64 17] W (AnsS (.int .u64 (opR ((x / 67108864 : Nat) : Int) (x / 512 % 2 ^ 17) 17 : Int)) W) := fun W => rate_open_s _ _ 17 W (by omega)
      rw [hro] at hop
      have hc : (tupR (xa, x)).cells = [.int .u32 (xa : Int), .int .u64 (opN (x / 67108864) (x / 512 % 131072) : Int), .int .i64 ((x % 2 ^ 9 : Nat) : Int)] := rfl
      clear hro htk hL2
      generalize tupR (xa, x) = T at hin hc HTK
      generalize opN (x / 67108864) (x / 512 % 131072) = R at hop hc
      have hs26 : ((x : Int) / 67108864) = ((x / 67108864 : Nat) : Int) := by simp
      have hs9 : ((x : Int) / 512) = ((x / 512 : Nat) : Int) := by simp
      generalize x / 67108864 = E at hs26 hop hE63
      generalize x / 512 % 2 ^ 17 = M at hM1 hop hM63
      generalize x / 512 = S at hs9 hM1
      generalize x % 2 ^ 9 = O at hO1 hc hO511
      have HS26 := Lib.hid hs26
      have HM1 := Lib.hid (show bits .and .u32 ((x : Int) / 512) 131071 = (M : Int) by rw [hs9]; exact hM1)
      have HC := Lib.hid hc
      have hpi0 : (0 : Int) ≤ (p : Int) := by omega
      have hpi1 : (p : Int) < (n : Int) := by omega
      have hpi2 : (0 : Int) ≤ (p : Int) + 1 := by omega
      have hpi3 : (p : Int) + 1 < (n : Int) := by omega
      clear hs26 hs9 hM1 hc
      go_upto_region 9 with (fail)
      rw [HS26.out, HM1.out]
      have hgr : g < wr.heap.size := hP.blk.lt
      have hbr : b < wr.heap.size := Nat.lt_of_lt_of_le hb hP.but.size
      have hwr := hP.but.size
      have hrow : ∀ k, (Value.slice Ar L.length cr).ownBlock = some k → w.heap.size ≤ k := fun k hk => (World.ownsRow.lt hP.own k hk).1
      have hgw := hZ.lt
      have ag : (Value.slice Ar L.length cr).ownBlock ≠ some g := fun e => by have := hrow _ e; omega
      have ab : (Value.slice Ar L.length cr).ownBlock ≠ some b := fun e => by have := hrow _ e; omega
      have HAG := Lib.hid ag
      have HAB := Lib.hid ab
      have HSM2 : Hid (∀ t ∈ L ++ [T], t.In) := Lib.hid (by rw [HTK.out]; exact HSM.out)
      have HROW := Lib.hid hrow
      have HBB := Lib.hid (show L.length + 1 ≤ 1000000 by omega)
      have HWO := Lib.hid (show IntKind.i64.wrap (O : Int) = (O : Int) by rw [IntKind.wrap_i64]; omega)
      have HWP := Lib.hid (show IntKind.i64.wrap ((p : Int) + 1) = (p : Int) + 1 by rw [IntKind.wrap_i64]; omega)
      have HO1 := Lib.hid hO1
      have hbw : w.heap.size ≤ wr.heap.size := hwr
      clear ag ab hrow hll h hO1 f3
      refine wp_region_s (F := firF (w.heap.size) wr) (fun i => i == 21) (fun i W => OwnT W w.heap.size (.slice Ar L.length cr) L) 22
        [.val (.pointer (some ⟨g, 0, none⟩)),
          .val (.pointer (some ⟨g, 0, none⟩)),
          .val (.pointer (some ⟨g, 0, none⟩)),
          .val (.pointer (some ⟨g, 3, none⟩)),
          .val (.slice Ar L.length cr),
          .val (.slice (some ⟨b, off, none⟩) n c),
          .val (.int .i64 (p : Int)),
          .val (.pointer (some ⟨b, off + p, none⟩)),
          .val (.int .u32 (xa : Int)),
          .val (.int .i64 (E : Int)),
          .val (.int .u32 (M : Int)),
          .val (.int .u64 (R : Int)),
          .val (.slice (some ⟨b, off, none⟩) n c),
          .val (.int .i64 (p : Int)),
          .val (.int .i64 ((p : Int) + 1)),
          .val (.pointer (some ⟨b, off + (p + 1), none⟩)),
          .val (.int .u32 (x : Int)),
          .val (.int .u32 (O : Int)),
          .val (.int .i64 (O : Int)),
          .val (.agg #[.int .u32 (xa : Int), .int .u64 (R : Int), .int .i64 (O : Int)]),
          newT w.heap.size wr T,
          rowT w.heap.size wr L2]
        (by kernel_rfl) (by kernel_rfl) (by kernel_rfl) (by decide) (by kernel_rfl) ⟨below_drewN _ wr 1, Nat.le_refl _⟩ (fun i hi => World.ownsRow.drew hP.own) (fun i a b _ _ hf _ hp => own_keep hp hf) (AllOblS.upto ⟨?_, ?_, ?_, ?_, ?_, ?_, ?_, ?_, ?_, ?_, ?_, ?_, ?_, ?_, ?_, ?_, ?_, ?_, ?_, ?_, ?_, ?_, trivial⟩) ?_ ?_
      · intro _
        exact OblS.move rfl _ (Or.inl rfl) (by kernel_rfl) rfl
      · intro _
        exact OblS.move rfl _ (Or.inl rfl) (by kernel_rfl) rfl
      · intro _
        refine OblS.pure rfl (.pointer (some ⟨g, 0, none⟩)) (by kernel_rfl) rfl fun ev W hI hx => ?_
        have e38 : ev (.tmp 38) = .pointer (some ⟨g, 0, none⟩) := holds_valF (hx (.tmp 38)) (by kernel_rfl)
        simp [execOp, go_sem, e38]
      · intro _
        refine OblS.pure rfl (.pointer (some ⟨g, 3, none⟩)) (by kernel_rfl) rfl fun ev W hI hx => ?_
        have e39 : ev (.tmp 39) = .pointer (some ⟨g, 0, none⟩) := holds_valF (hx (.tmp 39)) (by kernel_rfl)
        simp [execOp, go_sem, e39]
      · intro _
        refine OblS.pure rfl (.slice Ar L.length cr) (by kernel_rfl) rfl fun ev W hI hx => ?_
        have e40 : ev (.tmp 40) = .pointer (some ⟨g, 3, none⟩) := holds_valF (hx (.tmp 40)) (by kernel_rfl)
        have d4 := (Below.cell (p := ⟨g, 3, none⟩) hI.1 hgw).trans y3
        simp [execOp, go_sem, e40, d4]
      · intro _
        exact OblS.move rfl _ (Or.inl rfl) (by kernel_rfl) rfl
      · intro _
        exact OblS.move rfl _ (Or.inl rfl) (by kernel_rfl) rfl
      · intro _
        refine OblS.pure rfl (.pointer (some ⟨b, off + p, none⟩)) (by kernel_rfl) rfl fun ev W hI hx => ?_
        have e42 : ev (.tmp 42) = .slice (some ⟨b, off, none⟩) n c := holds_valF (hx (.tmp 42)) (by kernel_rfl)
        have e43 : ev (.tmp 43) = .int .i64 (p : Int) := holds_valF (hx (.tmp 43)) (by kernel_rfl)
        simp [execOp, go_sem, e42, e43, hpi1, hlt]
      · intro _
        refine OblS.pure rfl (.int .u32 (xa : Int)) (by kernel_rfl) rfl fun ev W hI hx => ?_
        have e44 : ev (.tmp 44) = .pointer (some ⟨b, off + p, none⟩) := holds_valF (hx (.tmp 44)) (by kernel_rfl)
        have d4 := (Below.cell (p := ⟨b, off + p, none⟩) hI.1 hb).trans c1
        simp [execOp, go_sem, e44, d4]
      · intro _
        exact OblS.move rfl _ (Or.inl rfl) (by kernel_rfl) rfl
      · intro _
        exact OblS.move rfl _ (Or.inl rfl) (by kernel_rfl) rfl
      · intro _
        refine OblS.call rfl 82 #[.tmp 46, .tmp 47, .const (.int .i64 17)] _ rfl Try.f82 Try.func82 (by kernel_rfl) (by kernel_rfl) rfl fun ev W hI hx => ?_
        have e0 : ev (.tmp 46) = .int .i64 (E : Int) := holds_valF (hx (.tmp 46)) (by kernel_rfl)
        have e1 : ev (.tmp 47) = .int .u32 (M : Int) := holds_valF (hx (.tmp 47)) (by kernel_rfl)
        have e2 : ev (.const (.int .i64 17)) = .int .i64 17 := holds_valF (hx (.const (.int .i64 17))) (by kernel_rfl)
        simp only [List.map_toArray, List.map_cons, List.map_nil, e0, e1, e2]
        refine (hop W).mono ?_
        rintro e W' ⟨rfl, rfl⟩
        exact ⟨_, rfl, hI, Below.refl _ _, rfl⟩
      · intro _
        exact OblS.move rfl _ (Or.inl rfl) (by kernel_rfl) rfl
      · intro _
        exact OblS.move rfl _ (Or.inl rfl) (by kernel_rfl) rfl
      · intro _
        refine OblS.pure rfl (.int .i64 ((p : Int) + 1)) (by kernel_rfl) rfl fun ev W hI hx => ?_
        have e50 : ev (.tmp 50) = .int .i64 (p : Int) := holds_valF (hx (.tmp 50)) (by kernel_rfl)
        have k0 : ev (.const (.int .i64 1)) = .int .i64 1 := holds_valF (hx (.const (.int .i64 1))) (by kernel_rfl)
        simp [execOp, go_sem, e50, k0, HWP.out]
      · intro _
        refine OblS.pure rfl (.pointer (some ⟨b, off + (p + 1), none⟩)) (by kernel_rfl) rfl fun ev W hI hx => ?_
        have e49 : ev (.tmp 49) = .slice (some ⟨b, off, none⟩) n c := holds_valF (hx (.tmp 49)) (by kernel_rfl)
        have e51 : ev (.tmp 51) = .int .i64 ((p : Int) + 1) := holds_valF (hx (.tmp 51)) (by kernel_rfl)
        have hwt : ((p : Int) + 1).toNat = p + 1 := by omega
        simp [execOp, go_sem, e49, e51, hpi2, hpi3, hp1, hwt]
      · intro _
        refine OblS.pure rfl (.int .u32 (x : Int)) (by kernel_rfl) rfl fun ev W hI hx => ?_
        have e52 : ev (.tmp 52) = .pointer (some ⟨b, off + (p + 1), none⟩) := holds_valF (hx (.tmp 52)) (by kernel_rfl)
        have d4 := (Below.cell (p := ⟨b, off + (p + 1), none⟩) hI.1 hb).trans c2
        simp [execOp, go_sem, e52, d4]
      · intro _
        refine OblS.pure rfl (.int .u32 (O : Int)) (by kernel_rfl) rfl fun ev W hI hx => ?_
        have e53 : ev (.tmp 53) = .int .u32 (x : Int) := holds_valF (hx (.tmp 53)) (by kernel_rfl)
        have k0 : ev (.const (.int .u32 511)) = .int .u32 511 := holds_valF (hx (.const (.int .u32 511))) (by kernel_rfl)
        simp [execOp, go_sem, e53, k0, HO1.out]
      · intro _
        refine OblS.pure rfl (.int .i64 (O : Int)) (by kernel_rfl) rfl fun ev W hI hx => ?_
        have e54 : ev (.tmp 54) = .int .u32 (O : Int) := holds_valF (hx (.tmp 54)) (by kernel_rfl)
        simp [execOp, go_sem, e54, HWO.out]
      · intro _
        refine OblS.pure rfl (.agg #[.int .u32 (xa : Int), .int .u64 (R : Int), .int .i64 (O : Int)]) (by kernel_rfl) rfl fun ev W hI hx => ?_
        have e45 : ev (.tmp 45) = .int .u32 (xa : Int) := holds_valF (hx (.tmp 45)) (by kernel_rfl)
        have e48 : ev (.tmp 48) = .int .u64 (R : Int) := holds_valF (hx (.tmp 48)) (by kernel_rfl)
        have e55 : ev (.tmp 55) = .int .i64 (O : Int) := holds_valF (hx (.tmp 55)) (by kernel_rfl)
        simp [execOp, go_sem, e45, e48, e55]
      · intro _
        refine OblS.step rfl fun ev W hI hx => ?_
        have e56 : ev (.tmp 56) = .agg #[.int .u32 (xa : Int), .int .u64 (R : Int), .int .i64 (O : Int)] := holds_valF (hx (.tmp 56)) (by kernel_rfl)
        refine ⟨.slice (some ⟨W.heap.size, 0, none⟩) 1 1, W.alloc (.cells #[.int .u32 (xa : Int), .int .u64 (R : Int), .int .i64 (O : Int)] 57), ?_, ?_, ?_, ?_⟩
        · simp [execOp, e56, go_sem]
        · exact firF_step hI hbw ((Below.refl W.heap.size W).alloc (Nat.le_refl _) _)
        · exact (Below.refl W.heap.size W).alloc (Nat.le_refl _) _
        · exact ⟨W.heap.size, rfl, hI.2, lit_rt T hin W _ (by rw [HC.out])⟩
      · exact fun hh => absurd hh (by decide)
      · intro i oo him hsp hoo
        have hi2 : i = 21 := by simpa using hsp
        have hka : ∀ k, (Value.slice Ar L.length cr).ownBlock = some k → w.heap.size ≤ k ∧ k < wr.heap.size := fun k hk => World.ownsRow.lt hP.own k hk
        subst hi2
        obtain rfl := (Option.some.inj hoo).symm
        refine OblX.step rfl fun ev W hI hpre hx => ?_
        have hpre : OwnT W w.heap.size (.slice Ar L.length cr) L := hpre
        have e41 : ev (.tmp 41) = .slice Ar L.length cr := holds_valF (hx (.tmp 41)) (by kernel_rfl)
        obtain ⟨gw, e57, hgw', hr⟩ := newT_of (x := T) (hx (.tmp 57)) (by kernel_rfl)
        obtain ⟨v', W', hrun, ho', hg'⟩ := run_appendT w.heap.size _ L hpre W.heap.size (some ⟨gw, 0, none⟩) 1 1 [T] hr HBB.out (Nat.le_trans hbw hI.2)
        refine ⟨v', W', run_op_append (.tmp 41) (.tmp 57) 28 28 rfl rfl _ _ _ _ _ e41 e57 hrun, ⟨below_grown hI.1 (Nat.le_trans hbw hI.2) hg' (fun k hk => (hka k hk).1), Nat.le_trans hI.2 hg'.size⟩, ?_, ?_, ?_⟩
        · intro j u hj hh
          by_cases hj22 : j < 22
          · have : j = 20 ∨ j < 20 := by omega
            rcases this with rfl | this
            · obtain ⟨g, e, h1, h2⟩ := newT_of (x := T) hh rfl
              exact ⟨g, e, h1, newT_grown (wr := wr) hg' (fun k hk => (hka k hk).2) h1 h2⟩
            · have : j = 0 ∨ j = 1 ∨ j = 2 ∨ j = 3 ∨ j = 4 ∨ j = 5 ∨ j = 6 ∨ j = 7 ∨ j = 8 ∨ j = 9 ∨ j = 10 ∨ j = 11 ∨ j = 12 ∨ j = 13 ∨ j = 14 ∨ j = 15 ∨ j = 16 ∨ j = 17 ∨ j = 18 ∨ j = 19 := by omega
              rcases this with rfl | rfl | rfl | rfl | rfl | rfl | rfl | rfl | rfl | rfl | rfl | rfl | rfl | rfl | rfl | rfl | rfl | rfl | rfl | rfl <;> exact hh
          · rw [tbl_out (n := 22) rfl (by omega)]
            trivial
        · intro j hj hsj hp
          exact absurd (by simpa using hsj : j = 21) hj
        · show OwnT W' w.heap.size v' L2
          rw [← HTK.out]
          exact ho'
      intro aa W hI hsz hdf hold hv
      have o58 : OwnT W w.heap.size (aa.tmps.getD 58 undef) L2 := rowT_of (hv 21 (by decide)) (by kernel_rfl)
      have v37 : aa.tmps.getD 37 undef = .pointer (some ⟨g, 0, none⟩) := holds_valF (hv 0 (by decide)) (by kernel_rfl)
      obtain ⟨A7, c7, v58, _⟩ := o58.rt HSM.out
      rw [v58] at o58
      have ha := act_puts [37, 38, 39, 40, 41, 42, 43, 44, 45, 46, 47, 48, 49, 50, 51, 52, 53, 54, 55, 56, 57, 58, 59, 60] (by kernel_rfl) hsz hdf hold
      simp only [putAll, v37, v58] at ha
      generalize aa.tmps.getD 38 undef = x38 at ha
      generalize aa.tmps.getD 39 undef = x39 at ha
      generalize aa.tmps.getD 40 undef = x40 at ha
      generalize aa.tmps.getD 41 undef = x41 at ha
      generalize aa.tmps.getD 42 undef = x42 at ha
      generalize aa.tmps.getD 43 undef = x43 at ha
      generalize aa.tmps.getD 44 undef = x44 at ha
      generalize aa.tmps.getD 45 undef = x45 at ha
      generalize aa.tmps.getD 46 undef = x46 at ha
      generalize aa.tmps.getD 47 undef = x47 at ha
      generalize aa.tmps.getD 48 undef = x48 at ha
      generalize aa.tmps.getD 49 undef = x49 at ha
      generalize aa.tmps.getD 50 undef = x50 at ha
      generalize aa.tmps.getD 51 undef = x51 at ha
      generalize aa.tmps.getD 52 undef = x52 at ha
      generalize aa.tmps.getD 53 undef = x53 at ha
      generalize aa.tmps.getD 54 undef = x54 at ha
      generalize aa.tmps.getD 55 undef = x55 at ha
      generalize aa.tmps.getD 56 undef = x56 at ha
      generalize aa.tmps.getD 57 undef = x57 at ha
      generalize aa.tmps.getD 59 undef = x59 at ha
      generalize aa.tmps.getD 60 undef = x60 at ha
      clear v37 v58 hv hold hsz hdf
      subst ha
      simp only [List.toList_toArray, List.drop_succ_cons, List.drop_zero, Act.put, List.setIfInBounds_toArray, List.set_cons_succ, List.set_cons_zero]
      have hP7 := hP.push hgw hI o58
      have hblk := hP.blk.below hI.1 hgw
      have c3 : W.cell? ⟨g, 3, none⟩ = some (.slice Ar L.length cr) := (hblk.cell 3).trans rfl
      have f3 := hblk.frozen 3
      have hpq : p + 2 = 2 * (q + 1) + 2 := by have := HPQ.out; omega
      have HPQ2 : Hid (p + 2 = 2 * (q + 1) + 2) := Lib.hid hpq
      have hpl2 : p + 2 ≤ n := by have := HPQ.out; have := HEV.out; have := HL.out; omega
      clear hblk hI hP y3 c1 c2 o58 hop hpq
      go_wp2_with fail
      go_roundw
      case rel => exact ⟨q + 1, p + 2, A7, c7, HPQ2, hpl2, by go_num, by rw [HL2.out]; exact hP7⟩
      case measure => simp [intOf]; omega
    · have g3 : ¬ (p : Int) < (n : Int) := by omega
      have hq2 : (tupsR ws).length ≤ q := by
        rw [tupsR_len]
        have := HPQ.out
        have := HL.out
        omega
      rw [List.take_of_length_le hq2] at hP
      have hsm := tupsR_in hw
      have hdl : (tupsR ws).length ≤ 1000000 := by have := HL.out; rw [tupsR_len]; omega
      have hob := own_block hP.own
      obtain ⟨A', c', he', hrt⟩ := hP.own.rt hsm
      injection he' with e1 e2 e3
      subst e1 e3
      have hb7 := hP.blk
      have hG := hP.below
      clear hq2 h hP e2
      generalize hDD : tupsR ws = DD at hrt hsm hdl hb7 hob
      have HDD := Lib.hid hDD
      clear hDD
      go_wp2_with fail
      go_ret
      refine ⟨⟨⟨K, f, 0, DD, [], [], 0, 0, 0, []⟩, Ar, cr, none, 0, none, 0, none, 0⟩, rfl, ?_, hb7, ⟨hrt, R32.nil _ _ _ _, RN.nil _ _ _ _, R8.nil _ _ _ _, Rep.In.of (i64_small (by omega)) s0 (by omega) (by omega) (i64_small (by omega)) (i64_small (by omega)) (by omega) (by simp) (by simp) (by simp)⟩, (fun ad had => by
        rcases had with had | had | had | had
        · exact hob ad had
        · cases had
        · cases had
        · cases had), hG⟩
      rw [← HDD.out, ← HF0.out]
end Go.Proofs.Ytnchgmemajmkjaa
namespace Go.Proofs.Ytnchgmemajmkjaa
open Go.RowKit
set_option linter.unusedVariables false
set_option linter.unusedSimpArgs false
set_option maxRecDepth 20000

def frB (ws : List Nat) : Bool := prB ws && (pairs (ws.drop 2)).all fun p => decide (p.2 % 16777216 = 0)
/-- What readFir answers. -/
def FirOut (w : World) (g : Nat) (ws : List Nat) (e : Ending) (w' : World) : Prop :=
  (frB ws = true ∧ PutOut w g ⟨4, ws.getD 0 0, 0, [], absR ws, numsR ws, 0, 0, 0, []⟩ e w') ∨ (frB ws = false ∧ PutNo w g e w')
theorem FirOut.no {w w' : World} {g : Nat} {ws : List Nat} (h : frB ws = false) (hb : Below g w w') : FirOut w g ws (.returned (.bool false)) w' := .inr ⟨h, rfl, hb⟩
theorem FirOut.yes {w w' : World} {g : Nat} {ws : List Nat} {e : Ending} (h : frB ws = true) (hb : PutOut w g ⟨4, ws.getD 0 0, 0, [], absR ws, numsR ws, 0, 0, 0, []⟩ e w') : FirOut w g ws e w' := .inl ⟨h, hb⟩
/-- What stands while Abouts and Numbers are laid into the report at g. -/
structure FpAt (w : World) (g : Nat) (f : Nat) (A : Option Addr) (c : Nat) (la : List Nat) (An : Option Addr) (cn : Nat) (ln : List Int) (wr : World) : Prop where
  but : But g w wr
  below : Below g w wr
  blk : Blk wr g 33 #[.int .i64 4, .int .u32 (f : Int), .int .u32 0, .slice none 0 0, .slice A la.length c, .slice An ln.length cn, .int .u64 0, .int .i64 0, .int .i64 0, .slice none 0 0]
  oa : Own32 wr w.heap.size (.slice A la.length c) la
  on : OwnI wr w.heap.size (.slice An ln.length cn) ln
/-- The words' row, one longer; the numbers' row as it was. -/
def rowWI (base : Nat) (wr : World) (l : List Nat) (An : Option Addr) (cn : Nat) (ln : List Int) : ClF (firF base wr) := .pred (fun v W => Own32 W base v l ∧ OwnI W base (.slice An ln.length cn) ln) (fun v a b _ hf _ h => ⟨own_keep h.1 hf, own_keep h.2 hf⟩)
theorem rowWI_of {base : Nat} {wr : World} {l : List Nat} {An : Option Addr} {cn : Nat} {ln : List Int} {c : ClF (firF base wr)} {v : Value} {W : World} (h : c.holds v W) (e : c = rowWI base wr l An cn ln) : Own32 W base v l ∧ OwnI W base (.slice An ln.length cn) ln := by subst e; exact h
theorem FpAt.push4 {w : World} {g f : Nat} {A A' : Option Addr} {c c' : Nat} {la la' : List Nat} {An : Option Addr} {cn : Nat} {ln : List Int} {wr W : World} (h : FpAt w g f A c la An cn ln wr) (hg : g < w.heap.size) (hI : (firF w.heap.size wr).I W) (ho : Own32 W w.heap.size (.slice A' la'.length c') la') (hi : OwnI W w.heap.size (.slice An ln.length cn) ln) :
    FpAt w g f A' c' la' An cn ln (W.setCell ⟨g, 4, none⟩ (.slice A' la'.length c')) := by
  have hb : Below w.heap.size wr W := hI.1
  have hs : wr.heap.size ≤ W.heap.size := hI.2
  have hbt := but_setCell W g 4 (.slice A' la'.length c')
  refine ⟨⟨?_, fun k hk hne => ?_⟩, Below.setCell (h.below.trans (hb.mono (Nat.le_of_lt hg))) (p := ⟨g, 4, none⟩) (Nat.le_refl _) _, ?_, ?_, ?_⟩
  · have := h.but.size
    simp [World.setCell]
    omega
  · rw [Below.heap_setCell _ _ _ _ hne, hb.block k hk]
    exact h.but.block k hk hne
  · have := (h.blk.below hb hg).set_ 4 (.slice A' la'.length c')
    simpa only [List.setIfInBounds_toArray, List.set_cons_succ, List.set_cons_zero] using this
  · exact own_but ho hbt.size hbt.block (fun e => by have := (World.ownsRow.lt ho _ e).1; omega)
  · exact own_but hi hbt.size hbt.block (fun e => by have := (World.ownsRow.lt hi _ e).1; omega)
theorem FpAt.push5 {w : World} {g f : Nat} {A : Option Addr} {c : Nat} {la : List Nat} {An An' : Option Addr} {cn cn' : Nat} {ln ln' : List Int} {wr W : World} (h : FpAt w g f A c la An cn ln wr) (hg : g < w.heap.size) (hgr : Below w.heap.size wr W) (hs : wr.heap.size ≤ W.heap.size) (ho : Own32 W w.heap.size (.slice A la.length c) la) (hi : OwnI W w.heap.size (.slice An' ln'.length cn') ln') :
    FpAt w g f A c la An' cn' ln' (W.setCell ⟨g, 5, none⟩ (.slice An' ln'.length cn')) := by
  have hb : Below w.heap.size wr W := hgr
  have hbt := but_setCell W g 5 (.slice An' ln'.length cn')
  refine ⟨⟨?_, fun k hk hne => ?_⟩, Below.setCell (h.below.trans (hb.mono (Nat.le_of_lt hg))) (p := ⟨g, 5, none⟩) (Nat.le_refl _) _, ?_, ?_, ?_⟩
  · have := h.but.size
    simp [World.setCell]
    omega
  · rw [Below.heap_setCell _ _ _ _ hne, hb.block k hk]
    exact h.but.block k hk hne
  · have := (h.blk.below hb hg).set_ 5 (.slice An' ln'.length cn')
    simpa only [List.setIfInBounds_toArray, List.set_cons_succ, List.set_cons_zero] using this
  · exact own_but ho hbt.size hbt.block (fun e => by have := (World.ownsRow.lt ho _ e).1; omega)
  · exact own_but hi hbt.size hbt.block (fun e => by have := (World.ownsRow.lt hi _ e).1; omega)
theorem all_pairs_no {ws : List Nat} {q : Nat} (hp : 2 * q + 3 < ws.length) (h : ws.getD (2 * q + 3) 0 % 16777216 ≠ 0) : frB ws = false := by
  have hq : q < (pairs (ws.drop 2)).length := by rw [pairs_len, List.length_drop]; omega
  unfold frB
  rw [Bool.and_eq_false_iff]
  right
  rw [List.all_eq_false]
  refine ⟨_, List.getElem_mem hq, ?_⟩
  rw [pairs_at _ _ hq]
  simp only [drop2]
  simpa using h
theorem all_pairs_yes {ws : List Nat} (hr : prB ws = true) (h : ∀ q, 2 * q + 3 < ws.length → ws.getD (2 * q + 3) 0 % 16777216 = 0) : frB ws = true := by
  unfold frB
  rw [hr, Bool.true_and, List.all_eq_true]
  intro p hp
  obtain ⟨q, hq, rfl⟩ := List.getElem_of_mem hp
  rw [pairs_at _ _ hq]
  simp only [drop2, decide_eq_true_eq]
  rw [pairs_len, List.length_drop] at hq
  exact h q (by omega)
set_option maxHeartbeats 4000000 in
theorem readFir_any (A : Option Addr) (n c : Nat) (ws : List Nat) (g : Nat) (w : World) (h : R32 w w.heap.size A n c ws) (hA : ∀ ad, A = some ad → ad.block ≠ g) (hn : n ≤ 250000) (hZ : Blk w g 33 (kindCells 4)) :
    Calls Try.prog 71 #[.slice A n c, .pointer (some ⟨g, 0, none⟩)] w (FirOut w g ws) := by
  have hp := paired_any A n c ws w h
  by_cases hr : prB ws = true
  rotate_left
  · have hr : prB ws = false := by simpa using hr
    have hf : frB ws = false := by unfold frB; rw [hr]; rfl
    have HF := Lib.hid hf
    rw [hr] at hp
    clear h hr hf
    go_enter Try.func71, Try.ntmps71
    go_wp2_with fail
    ((with_reducible refine hp.mono ?_); rintro e w1 ⟨rfl, rfl⟩)
    go_wp2_with fail
    go_ret
    exact FirOut.no HF.out (Below.refl _ _)
  have HPR := Lib.hid hr
  rw [hr] at hp
  have hl := h.1
  unfold prB at hr
  simp only [Bool.and_eq_true, decide_eq_true_eq] at hr
  obtain ⟨r1, r2, r3⟩ := hr
  have hw : Small ws := h.2.2.1
  obtain ⟨b, off, rfl, hb, c0⟩ := h.getD_at (q := 0) (by omega)
  have hne : b ≠ g := hA _ rfl
  have s0 := hw.at 0
  have b0 : (0 : Int) < (n : Int) := by omega
  have d0 : 0 < n := by omega
  have h2n : 2 ≤ n := by omega
  have HL := Lib.hid hl
  have HEV := Lib.hid r2
  generalize hff : ws.getD 0 0 = f at c0 s0
  have HF0 := Lib.hid hff
  simp only [Nat.add_zero] at c0
  obtain ⟨y0, y1, y2, y3, y4, y5, y6, y7, y8, y9⟩ := blk10 hZ
  obtain ⟨f0, f1, f2, f3, f4, f5, f6, f7, f8, f9⟩ := frz10 hZ
  clear y0 y2 y3 y4 y5 y6 y7 y8 y9 f0 f2 f3 f4 f5 f6 f7 f8 f9 hl r1 r2 r3 hff hA
  have hZ1 := hZ.set_ 1 (.int .u32 (f : Int))
  have bn1 := but_setCell w g 1 (.int .u32 (f : Int))
  have bG1 := Below.setCell (Below.refl g w) (p := ⟨g, 1, none⟩) (Nat.le_refl _) (.int .u32 (f : Int))
  simp only [kindCells, List.setIfInBounds_toArray, List.set_cons_succ, List.set_cons_zero] at hZ1
  go_enter Try.func71, Try.ntmps71
  go_wp2_with fail
  ((with_reducible refine hp.mono ?_); rintro e w1 ⟨rfl, rfl⟩)
  clear hp
  go_upto_region 4 with (fail)
  have hP : FpAt w g f none 0 [] none 0 [] (w.setCell ⟨g, 1, none⟩ (.int .u32 (f : Int))) := ⟨bn1, bG1, hZ1, World.ownsRow_nil _ _ _ _, World.ownsRow_nil _ _ _ _⟩
  have hgw := hZ.lt
  clear hZ1 bn1 bG1 y1 f1 c0 hZ
  generalize w.setCell ⟨g, 1, none⟩ (.int .u32 (f : Int)) = W1 at hP ⊢
  go_wp2_with fail
  go_loopw [5, 6] (fun iv _ wr => ∃ (q p : Nat) (Ar : Option Addr) (cr : Nat) (An : Option Addr) (cn : Nat), Hid (p = 2 * q + 2) ∧ p ≤ n ∧ iv = .int .i64 (p : Int) ∧ Hid (∀ k, k < q → ws.getD (2 * k + 3) 0 % 16777216 = 0) ∧ FpAt w g f Ar cr ((absR ws).take q) An cn ((numsR ws).take q) wr) (fun iv _ _ => n - (intOf iv).toNat)
  case atStart => exact ⟨0, 2, none, 0, none, 0, Lib.hid rfl, h2n, rfl, Lib.hid (fun k hk => absurd hk (by omega)), by simpa using hP⟩
  case round =>
    obtain ⟨q, p, Ar, cr, An, cn, HPQ, hpl, rfl, HGOOD, hP⟩ := hrel
    by_cases hlt : p < n
    · have g3 : decide ((p : Int) < (n : Int)) = true := by simp; omega
      have hp1 : p + 1 < n := by have := HPQ.out; have := HEV.out; have := HL.out; omega
      have hRr := h.but hP.but (fun ad e => by injection e with e; rw [← e]; exact hne)
      obtain ⟨y0, y1, y2, y3, y4, y5, y6, y7, y8, y9⟩ := blk10 hP.blk
      obtain ⟨b', off', e', hb', c1⟩ := hRr.getD_at (q := p) (by omega)
      injection e' with e'
      injection e' with e1 e2 _
      subst e1 e2
      obtain ⟨b', off', e', hb', c2⟩ := hRr.getD_at (q := p + 1) (by omega)
      injection e' with e'
      injection e' with e1 e2 _
      subst e1 e2
      have htk := firR_take HPQ.out (by rw [HL.out]; omega : p + 1 < ws.length)
      have hxa := hw.at p
      have hxb := hw.at (p + 1)
      have hll := firR_len ws
      have hla : ((absR ws).take q).length ≤ 125000 := by rw [List.length_take, hll.1]; have := HL.out; omega
      have hln : ((numsR ws).take q).length ≤ 125000 := by rw [List.length_take, hll.2]; have := HL.out; omega
      have hsa : ∀ t ∈ (absR ws).take (q + 1), t < 4294967296 := fun t ht => absR_small hw t (List.mem_of_mem_take ht)
      have hsn : ∀ t ∈ (numsR ws).take (q + 1), I64 t := fun t ht => numsR_in hw t (List.mem_of_mem_take ht)
      have HSA := Lib.hid hsa
      have HSN := Lib.hid hsn
      have hbad : ws.getD (p + 1) 0 % 16777216 ≠ 0 → frB ws = false := fun hh => all_pairs_no (q := q) (by have := HPQ.out; have := HL.out; omega) (by rw [show 2 * q + 3 = p + 1 by have := HPQ.out; omega]; exact hh)
      have hgood : ws.getD (p + 1) 0 % 16777216 = 0 → ∀ k, k < q + 1 → ws.getD (2 * k + 3) 0 % 16777216 = 0 := fun hh k hk => by
        rcases Nat.lt_or_ge k q with h1 | h1
        · exact HGOOD.out k h1
        · rw [show 2 * k + 3 = p + 1 by have := HPQ.out; omega]
          exact hh
      have HBAD := Lib.hid hbad
      have HGD := Lib.hid hgood
      clear hsa hsn hRr y0 y1 y2 y3 y5 y6 y7 y8 y9 hb' hll hbad hgood
      generalize ws.getD p 0 = xa at c1 htk hxa
      generalize ws.getD (p + 1) 0 = x at c2 htk hxb HBAD HGD
      generalize (absR ws).take q = la at hP htk hla y4
      generalize (numsR ws).take q = ln at hP htk hln
      generalize hLA2 : (absR ws).take (q + 1) = la2 at htk HSA
      generalize hLN2 : (numsR ws).take (q + 1) = ln2 at htk HSN
      have HLA2 := Lib.hid hLA2
      have HLN2 := Lib.hid hLN2
      have HTK := Lib.hid htk
      have hs24 : ((x : Int) / 16777216) = ((x / 16777216 : Nat) : Int) := by simp
      have hz255 : x / 16777216 ≤ 255 := by omega
      have hpi1 : (p : Int) < (n : Int) := by omega
      have hpi3 : (p : Int) + 1 < (n : Int) := by omega
      have hgr : g < wr.heap.size := hP.blk.lt
      have hwr := hP.but.size
      have hbw : w.heap.size ≤ wr.heap.size := hwr
      clear htk hLA2 hLN2
      by_cases hlow : x % 16777216 = 0
      rotate_left
      · have g7 : ((x : Int) / 16777216 * 16777216 != (x : Int)) = true := by simp; omega
        have HNO := Lib.hid (HBAD.out hlow)
        have hG := hP.below
        clear hlow hs24 y4 hP h
        go_wp2_with fail
        go_ret
        exact FirOut.no HNO.out hG
      have g7 : ((x : Int) / 16777216 * 16777216 != (x : Int)) = false := by simp; omega
      have HG2 := Lib.hid (HGD.out hlow)
      have HS24 := Lib.hid hs24
      clear hlow hs24
      go_upto_region 10 with (fail)
      clear g7
      rw [HS24.out]
      generalize x / 16777216 = Z at HS24 hz255 HTK ⊢
      have hzi : I64 (Z : Int) := by unfold I64; omega
      have HBB := Lib.hid (show la.length + 1 ≤ 1000000 by omega)
      refine wp_region_s (F := firF (w.heap.size) wr) (fun i => i == 10) (fun i W => Own32 W w.heap.size (.slice Ar la.length cr) la ∧ OwnI W w.heap.size (.slice An ln.length cn) ln) 11
        [.val (.pointer (some ⟨g, 0, none⟩)),
          .val (.pointer (some ⟨g, 0, none⟩)),
          .val (.pointer (some ⟨g, 0, none⟩)),
          .val (.pointer (some ⟨g, 4, none⟩)),
          .val (.slice Ar la.length cr),
          .val (.slice (some ⟨b, off, none⟩) n c),
          .val (.int .i64 (p : Int)),
          .val (.pointer (some ⟨b, off + p, none⟩)),
          .val (.int .u32 (xa : Int)),
          newW w.heap.size wr xa,
          rowWI w.heap.size wr la2 An cn ln]
        (by kernel_rfl) (by kernel_rfl) (by kernel_rfl) (by decide) (by kernel_rfl) ⟨below_drewN _ wr 1, Nat.le_refl _⟩ (fun i hi => ⟨World.ownsRow.drew hP.oa, World.ownsRow.drew hP.on⟩) (fun i a b _ _ hf _ hp => ⟨own_keep hp.1 hf, own_keep hp.2 hf⟩) (AllOblS.upto ⟨?_, ?_, ?_, ?_, ?_, ?_, ?_, ?_, ?_, ?_, ?_, trivial⟩) ?_ ?_
      · intro _
        exact OblS.move rfl _ (Or.inl rfl) (by kernel_rfl) rfl
      · intro _
        exact OblS.move rfl _ (Or.inl rfl) (by kernel_rfl) rfl
      · intro _
        refine OblS.pure rfl (.pointer (some ⟨g, 0, none⟩)) (by kernel_rfl) rfl fun ev W hI hx => ?_
        have e37 : ev (.tmp 37) = .pointer (some ⟨g, 0, none⟩) := holds_valF (hx (.tmp 37)) (by kernel_rfl)
        simp [execOp, go_sem, e37]
      · intro _
        refine OblS.pure rfl (.pointer (some ⟨g, 4, none⟩)) (by kernel_rfl) rfl fun ev W hI hx => ?_
        have e38 : ev (.tmp 38) = .pointer (some ⟨g, 0, none⟩) := holds_valF (hx (.tmp 38)) (by kernel_rfl)
        simp [execOp, go_sem, e38]
      · intro _
        refine OblS.pure rfl (.slice Ar la.length cr) (by kernel_rfl) rfl fun ev W hI hx => ?_
        have e39 : ev (.tmp 39) = .pointer (some ⟨g, 4, none⟩) := holds_valF (hx (.tmp 39)) (by kernel_rfl)
        have d4 := (Below.cell (p := ⟨g, 4, none⟩) hI.1 hgw).trans y4
        simp [execOp, go_sem, e39, d4]
      · intro _
        exact OblS.move rfl _ (Or.inl rfl) (by kernel_rfl) rfl
      · intro _
        exact OblS.move rfl _ (Or.inl rfl) (by kernel_rfl) rfl
      · intro _
        refine OblS.pure rfl (.pointer (some ⟨b, off + p, none⟩)) (by kernel_rfl) rfl fun ev W hI hx => ?_
        have e41 : ev (.tmp 41) = .slice (some ⟨b, off, none⟩) n c := holds_valF (hx (.tmp 41)) (by kernel_rfl)
        have e42 : ev (.tmp 42) = .int .i64 (p : Int) := holds_valF (hx (.tmp 42)) (by kernel_rfl)
        simp [execOp, go_sem, e41, e42, hpi1, hlt]
      · intro _
        refine OblS.pure rfl (.int .u32 (xa : Int)) (by kernel_rfl) rfl fun ev W hI hx => ?_
        have e43 : ev (.tmp 43) = .pointer (some ⟨b, off + p, none⟩) := holds_valF (hx (.tmp 43)) (by kernel_rfl)
        have d4 := (Below.cell (p := ⟨b, off + p, none⟩) hI.1 hb).trans c1
        simp [execOp, go_sem, e43, d4]
      · intro _
        refine OblS.step rfl fun ev W hI hx => ?_
        have e44 : ev (.tmp 44) = .int .u32 (xa : Int) := holds_valF (hx (.tmp 44)) (by kernel_rfl)
        refine ⟨.slice (some ⟨W.heap.size, 0, none⟩) 1 1, W.alloc (.cells #[.int .u32 (xa : Int)] 27), ?_, ?_, ?_, ?_⟩
        · simp [execOp, e44, go_sem]
        · exact firF_step hI hbw ((Below.refl W.heap.size W).alloc (Nat.le_refl _) _)
        · exact (Below.refl W.heap.size W).alloc (Nat.le_refl _) _
        · exact ⟨W.heap.size, rfl, hI.2, lit_r32 [xa] _ 1 _ W rfl rfl (by simp [wv]) (by intro z hz; simp at hz; omega)⟩
      · exact fun hh => absurd hh (by decide)
      · intro i oo him hsp hoo
        have hi2 : i = 10 := by simpa using hsp
        have hka : ∀ k, (Value.slice Ar la.length cr).ownBlock = some k → w.heap.size ≤ k ∧ k < wr.heap.size := fun k hk => World.ownsRow.lt hP.oa k hk
        subst hi2
        obtain rfl := (Option.some.inj hoo).symm
        refine OblX.step rfl fun ev W hI hpre hx => ?_
        have hpre : Own32 W w.heap.size (.slice Ar la.length cr) la ∧ OwnI W w.heap.size (.slice An ln.length cn) ln := hpre
        have e40 : ev (.tmp 40) = .slice Ar la.length cr := holds_valF (hx (.tmp 40)) (by kernel_rfl)
        obtain ⟨gw, e45, hgw', hr⟩ := newW_of (x := xa) (hx (.tmp 45)) (by kernel_rfl)
        obtain ⟨v', W', hrun, ho', hg', _⟩ := run_append32 w.heap.size _ la hpre.1 W.heap.size (some ⟨gw, 0, none⟩) 1 1 [xa] hr HBB.out (Nat.le_trans hbw hI.2)
        refine ⟨v', W', run_op_append (.tmp 40) (.tmp 45) 29 29 rfl rfl _ _ _ _ _ e40 e45 hrun, ⟨below_grown hI.1 (Nat.le_trans hbw hI.2) hg' (fun k hk => (hka k hk).1), Nat.le_trans hI.2 hg'.size⟩, ?_, ?_, ?_⟩
        · intro j u hj hh
          by_cases hj22 : j < 11
          · have : j = 9 ∨ j < 9 := by omega
            rcases this with rfl | this
            · obtain ⟨g, e, h1, h2⟩ := newW_of (x := xa) hh rfl
              exact ⟨g, e, h1, newW_grown (wr := wr) hg' (fun k hk => (hka k hk).2) h1 h2⟩
            · have : j = 0 ∨ j = 1 ∨ j = 2 ∨ j = 3 ∨ j = 4 ∨ j = 5 ∨ j = 6 ∨ j = 7 ∨ j = 8 := by omega
              rcases this with rfl | rfl | rfl | rfl | rfl | rfl | rfl | rfl | rfl <;> exact hh
          · rw [tbl_out (n := 11) rfl (by omega)]
            trivial
        · intro j hj hsj hp
          exact absurd (by simpa using hsj : j = 10) hj
        · show Own32 W' w.heap.size v' la2 ∧ OwnI W' w.heap.size (.slice An ln.length cn) ln
          rw [← HTK.out.1]
          exact ⟨ho', own_grown hpre.2 hg' (fun k hk hk' => own_ne hpre.1 hpre.2 k hk' hk)⟩
      intro aa W hI hsz hdf hold hv
      obtain ⟨o46a, hon⟩ := rowWI_of (l := la2) (An := An) (cn := cn) (ln := ln) (hv 10 (by decide)) (by kernel_rfl)
      have o46 : Own32 W w.heap.size (aa.tmps.getD 46 undef) la2 := o46a
      clear o46a
      have v36 : aa.tmps.getD 36 undef = .pointer (some ⟨g, 0, none⟩) := holds_valF (hv 0 (by decide)) (by kernel_rfl)
      obtain ⟨A7, c7, v46, _⟩ := o46.r32 HSA.out
      rw [v46] at o46
      have ha := act_puts [36, 37, 38, 39, 40, 41, 42, 43, 44, 45, 46, 47, 48] (by kernel_rfl) hsz hdf hold
      simp only [putAll, v36, v46] at ha
      generalize aa.tmps.getD 37 undef = x37 at ha
      generalize aa.tmps.getD 38 undef = x38 at ha
      generalize aa.tmps.getD 39 undef = x39 at ha
      generalize aa.tmps.getD 40 undef = x40 at ha
      generalize aa.tmps.getD 41 undef = x41 at ha
      generalize aa.tmps.getD 42 undef = x42 at ha
      generalize aa.tmps.getD 43 undef = x43 at ha
      generalize aa.tmps.getD 44 undef = x44 at ha
      generalize aa.tmps.getD 45 undef = x45 at ha
      generalize aa.tmps.getD 47 undef = x47 at ha
      generalize aa.tmps.getD 48 undef = x48 at ha
      clear v36 v46 hv hold hsz hdf
      subst ha
      simp only [List.toList_toArray, List.drop_succ_cons, List.drop_zero, Act.put, List.setIfInBounds_toArray, List.set_cons_succ, List.set_cons_zero]
      have hP7 := hP.push4 hgw hI o46 hon
      have hblk := hP.blk.below hI.1 hgw
      have c4 : W.cell? ⟨g, 4, none⟩ = some (.slice Ar la.length cr) := (hblk.cell 4).trans rfl
      have f4 := hblk.frozen 4
      clear hblk hI hP y4 c1 c2 o46 hon hgr hwr hbw
      go_upto_region 11 with (fail)
      clear c4 f4
      generalize W.setCell ⟨g, 4, none⟩ (.slice A7 la2.length c7) = V at hP7 ⊢
      obtain ⟨y0, y1, y2, y3, y4, y5, y6, y7, y8, y9⟩ := blk10 hP7.blk
      clear y0 y1 y2 y3 y4 y6 y7 y8 y9
      have hal := (Below.refl V.heap.size V).alloc (Nat.le_refl _) (.cells #[.int .i64 (Z : Int)] 3)
      have hon1 : OwnI (V.alloc (.cells #[.int .i64 (Z : Int)] 3)) w.heap.size (.slice An ln.length cn) ln := own_keep hP7.on hal
      have hoa1 : Own32 (V.alloc (.cells #[.int .i64 (Z : Int)] 3)) w.heap.size (.slice A7 la2.length c7) la2 := own_keep hP7.oa hal
      have rz := lit_rn (Z : Int) hzi V
      have hVs := hP7.but.size
      have HBN := Lib.hid (show ln.length + 1 ≤ 1000000 by omega)
      have hsA := hal.size
      have hb1 : w.heap.size ≤ (V.alloc (.cells #[.int .i64 (Z : Int)] 3)).heap.size := Nat.le_trans hVs hsA
      have hBf := (hP7.blk.alloc (.cells #[.int .i64 (Z : Int)] 3))
      have hlow : ∀ k, (Value.slice An ln.length cn).ownBlock = some k → w.heap.size ≤ k := fun k hk => (World.ownsRow.lt hP7.on k hk).1
      have HLOW := Lib.hid hlow
      clear hlow
      go_wp2_with (at_builtin; ((with_reducible refine wpList_appendI rfl (.tmp 53) (.tmp 56) rfl rfl w.heap.size _ ln (by with_unfolding_all rfl) hon1 _ (some ⟨V.heap.size, 0, none⟩) 1 1 [(Z : Int)] (by with_unfolding_all rfl) rz HBN.out hb1 ?_); rintro v9 W9 ⟨o9, g9, _⟩; rw [HTK.out.2] at o9; obtain ⟨A8, c8, rfl, r8⟩ := o9.rn HSN.out; have B9 := blk_grown hBf g9 (fun e => by have := HLOW.out _ e; omega); have k5 := (B9.cell 5).trans rfl; have z5 := B9.frozen 5))
      have hb9 : Below w.heap.size V W9 := below_grown (((Below.refl V.heap.size V).alloc (Nat.le_refl _) (.cells #[.int .i64 (Z : Int)] 3)).mono hVs) hb1 g9 (fun k hk => HLOW.out k hk)
      have hs9 : V.heap.size ≤ W9.heap.size := Nat.le_trans hsA g9.size
      have hoa9 := own_grown hoa1 g9 (fun k hk hk' => own_ne hoa1 hon1 k hk hk')
      have hP9 := hP7.push5 hgw hb9 hs9 hoa9 o9
      have hpq : p + 2 = 2 * (q + 1) + 2 := by have := HPQ.out; omega
      have HPQ2 : Hid (p + 2 = 2 * (q + 1) + 2) := Lib.hid hpq
      have hpl2 : p + 2 ≤ n := by have := HPQ.out; have := HEV.out; have := HL.out; omega
      have HGOOD2 : Hid (∀ k, k < q + 1 → ws.getD (2 * k + 3) 0 % 16777216 = 0) := Lib.hid HG2.out
      clear B9 k5 z5 r8 o9 g9 hb9 hs9 hoa9 hoa1 hon1 hal rz hP7 y5 hBf hpq
      go_wp2_with fail
      go_roundw
      case rel => exact ⟨q + 1, p + 2, A7, c7, A8, c8, HPQ2, hpl2, by go_num, HGOOD2, by rw [HLA2.out, HLN2.out]; exact hP9⟩
      case measure => simp [intOf]; omega
    · have g3 : ¬ (p : Int) < (n : Int) := by omega
      have hll := firR_len ws
      have hq2 : (absR ws).length ≤ q := by rw [hll.1]; have := HPQ.out; have := HL.out; omega
      have hq3 : (numsR ws).length ≤ q := by rw [hll.2]; have := HPQ.out; have := HL.out; omega
      rw [List.take_of_length_le hq2, List.take_of_length_le hq3] at hP
      have hyes : frB ws = true := all_pairs_yes HPR.out (fun k hk => HGOOD.out k (by have := HPQ.out; have := HL.out; have := HEV.out; omega))
      have HYES := Lib.hid hyes
      have hsa := absR_small hw
      have hsn := numsR_in hw
      have hda : (absR ws).length ≤ 1000000 := by have := HL.out; rw [hll.1]; omega
      have hdn : (numsR ws).length ≤ 1000000 := by have := HL.out; rw [hll.2]; omega
      have hoba := own_block hP.oa
      have hobn := own_block hP.on
      obtain ⟨A', c', he', hra⟩ := hP.oa.r32 hsa
      injection he' with e1 e2 e3
      subst e1 e3
      obtain ⟨A', c', he', hrn⟩ := hP.on.rn hsn
      injection he' with e1 e2 e3
      subst e1 e3
      have hb7 := hP.blk
      have hG := hP.below
      clear hq2 hq3 h hP e2 hyes hll
      generalize hDA : absR ws = DA at hra hsa hda hb7 hoba
      generalize hDN : numsR ws = DN at hrn hsn hdn hb7 hobn
      have HDA := Lib.hid hDA
      have HDN := Lib.hid hDN
      clear hDA hDN
      go_wp2_with fail
      go_ret
      refine FirOut.yes HYES.out ⟨⟨⟨4, f, 0, [], DA, DN, 0, 0, 0, []⟩, none, 0, Ar, cr, An, cn, none, 0⟩, rfl, ?_, hb7, ⟨RT.nil _ _ _ _, hra, hrn, R8.nil _ _ _ _, Rep.In.of (i64_small (by omega)) s0 (by omega) (by omega) (i64_small (by omega)) (i64_small (by omega)) (by simp) (by omega) (by omega) (by simp)⟩, (fun ad had => by
        rcases had with had | had | had | had
        · cases had
        · exact hoba ad had
        · exact hobn ad had
        · cases had), hG⟩
      rw [← HDA.out, ← HDN.out, ← HF0.out]
end Go.Proofs.Ytnchgmemajmkjaa
