/- Contracts: rtcp.paired, readWords; slices.Clone of words. Contracts: rtcp.readPli, readRemb. -/
import Derived.Test.YtnchgmemajmkjaaPcH
import Derived.Test.YtnchgmemajmkjaaMa
import Derived.Test.YtnchgmemajmkjaaRcQ
import Derived.Test.YtnchgmemajmkjaaRcD
import Derived.Lib.SliceRun
import Derived.Test.YtnchgmemajmkjaaRcX
namespace Go.Proofs.Ytnchgmemajmkjaa
open Go.RowKit
set_option linter.unusedVariables false
set_option linter.unusedSimpArgs false
set_option maxRecDepth 20000

def prB (ws : List Nat) : Bool := decide (2 ≤ ws.length) && (decide (ws.length % 2 = 0) && decide (ws.getD 1 0 = 0))
theorem R32.getD_at {w : World} {B : Nat} {A : Option Addr} {n c : Nat} {l : List Nat} (h : R32 w B A n c l) {q : Nat} (hq : q < n) : ∃ b off, A = some ⟨b, off, none⟩ ∧ b < B ∧ w.cell? ⟨b, off + q, none⟩ = some (.int .u32 (l.getD q 0 : Int)) := by
  have hql : q < l.length := by rw [h.1]; exact hq
  obtain ⟨b, off, e, hb, hc⟩ := h.at hql
  refine ⟨b, off, e, hb, ?_⟩
  rw [hc, List.getD_eq_getElem?_getD, List.getElem?_eq_getElem hql]
  rfl
theorem paired_any (A : Option Addr) (n c : Nat) (ws : List Nat) (w : World) (h : R32 w w.heap.size A n c ws) : Calls Try.prog 81 #[.slice A n c] w (AnsS (.bool (prB ws)) w) := by
  have hl := h.1
  by_cases l1 : 2 ≤ n
  rotate_left
  · have e : prB ws = false := by unfold prB; rw [decide_eq_false (by omega)]; rfl
    rw [e]
    have g : decide ((2 : Int) ≤ (n : Int)) = false := by simp only [decide_eq_false_iff_not]; omega
    clear e h hl l1
    go_enter Try.func81, Try.ntmps81
    go_wp2_with fail
    go_ret
    exact ⟨rfl, rfl⟩
  have g : decide ((2 : Int) ≤ (n : Int)) = true := by simp only [decide_eq_true_eq]; omega
  by_cases l2 : n % 2 = 0
  rotate_left
  · have e : prB ws = false := by unfold prB; rw [decide_eq_false (p := ws.length % 2 = 0) (by omega)]; simp
    rw [e]
    have g2 : ((n : Int) % 2 == 0) = false := by simp; omega
    clear e h hl l1 l2
    go_enter Try.func81, Try.ntmps81
    go_wp2_with fail
    go_ret
    exact ⟨rfl, rfl⟩
  have g2 : ((n : Int) % 2 == 0) = true := by simp; omega
  obtain ⟨b, off, rfl, hb, c1⟩ := h.getD_at (q := 1) (by omega)
  have e : prB ws = decide (ws.getD 1 0 = 0) := by unfold prB; rw [decide_eq_true (by omega), decide_eq_true (by omega)]; simp
  rw [e]
  have g3 : (1 : Int) < (n : Int) := by omega
  have g4 : 1 < n := by omega
  clear e h hl l2
  generalize ws.getD 1 0 = x at c1 ⊢
  by_cases hx : x = 0
  · subst hx
    go_enter Try.func81, Try.ntmps81
    go_wp2_with fail
    go_ret
    exact ⟨rfl, rfl⟩
  · rw [decide_eq_false hx]
    have g5 : ((x : Int) == 0) = false := by simp; omega
    clear hx
    go_enter Try.func81, Try.ntmps81
    go_wp2_with fail
    go_ret
    exact ⟨rfl, rfl⟩
theorem wsget_take {ws : List Nat} {q : Nat} (h : q < ws.length) : ws.take q ++ [ws.getD q 0] = ws.take (q + 1) := by
  rw [List.take_add_one, List.getElem?_eq_getElem h, List.getD_eq_getElem?_getD, List.getElem?_eq_getElem h]
  rfl
theorem lit1_r32 (a : Nat) (x : Int) (hx : x = (a : Int)) (ha : a < 4294967296) (V : World) (g : Nat) (hg : g = V.heap.size) :
    R32 (V.alloc (.cells #[.int .u32 x] 27)) (V.alloc (.cells #[.int .u32 x] 27)).heap.size (some ⟨g, 0, none⟩) 1 1 [a] := by
  subst hx
  exact lit_r32 [a] _ 1 g V hg rfl rfl (by intro z hz; simp at hz; omega)
/-- A row of words in new memory. -/
def NewWs (w : World) (l : List Nat) (e : Ending) (w' : World) : Prop := ∃ A c, e = .returned (.slice A l.length c) ∧ R32 w' w'.heap.size A l.length c l ∧ Below w.heap.size w w' ∧ ∀ ad, A = some ad → w.heap.size ≤ ad.block ∧ ad.block < w'.heap.size
set_option maxHeartbeats 1000000 in
theorem readWords_any (A : Option Addr) (n c : Nat) (ws : List Nat) (w : World) (h : R8 w w.heap.size A n c (wB ws)) (hw : Small ws) (hn : n ≤ 1000000) :
    Calls Try.prog 68 #[.slice A n c] w (NewWs w ws) := by
  have hwl : n = 4 * ws.length := by rw [← h.1, wB_len]; omega
  have HWL := Lib.hid hwl
  clear hwl
  go_enter Try.func68, Try.ntmps68
  go_wp2_with fail
  go_loopw [3, 4] (fun v iv wr => ∃ q p : Nat, Hid (p = 4 * q) ∧ p ≤ n ∧ iv = .int .i64 (p : Int) ∧ Own32 wr w.heap.size v (ws.take q) ∧ Below w.heap.size w wr) (fun _ iv _ => n - (intOf iv).toNat)
  case atStart => exact ⟨0, 0, Lib.hid rfl, by omega, rfl, Own32.nil _ _, Below.refl _ _⟩
  case round =>
    obtain ⟨q, p, HPQ, hp, rfl, ho, hbr⟩ := hrel
    by_cases hlt : p < n
    · have g3 : decide ((p : Int) < (n : Int)) = true := by simp; omega
      have hql : q < ws.length := by have := HPQ.out; have := HWL.out; omega
      have hget := get_any A n c (wB ws) wr (h.on hbr) (by omega) (p : Int) 4 (by unfold I64; omega)
      have hgw := get_w ws q hw
      have hpq : (4 * (q : Int)) = (p : Int) := by have := HPQ.out; omega
      rw [hpq] at hgw
      rw [hgw] at hget
      have hsm := hw.at q
      have htk := Lib.hid (wsget_take hql)
      have hll : (ws.take q).length ≤ 250000 := by have := HPQ.out; rw [List.length_take]; omega
      have hp4 : p + 4 ≤ n := by have := HPQ.out; have := HWL.out; omega
      generalize getB n (p : Int) 4 = ok at hget
      clear hgw hpq h
      generalize ws.getD q 0 = x at hget hsm htk
      generalize ws.take q = L at ho hll htk
      have hal := (Below.refl wr.heap.size wr).alloc (Nat.le_refl _) (.cells #[.int .u32 (x : Int)] 27)
      have ho5 := own32_kept ho hal
      have r5 := lit1_r32 x (x : Int) rfl hsm wr wr.heap.size rfl
      have b6 := hbr.trans (hal.mono hbr.size)
      have hs6 := b6.size
      have HBB := Lib.hid (show L.length + 1 ≤ 1000000 by omega)
      clear ho hll hal hbr
      go_wp2_with fail
      ((with_reducible refine hget.mono ?_); rintro e w1 ⟨rfl, rfl⟩)
      clear hget
      go_wp2_with (at_builtin; ((with_reducible refine wpList_append32 rfl (.tmp 19) (.tmp 22) rfl rfl w.heap.size _ L (by with_unfolding_all rfl) ho5 _ (some ⟨wr.heap.size, 0, none⟩) 1 1 [x] (by with_unfolding_all rfl) r5 HBB.out hs6 ?_); rintro v7 w7 ⟨o7, g7⟩))
      have b7 := below_grown b6 hs6 g7 (fun k hk => (World.ownsRow.lt ho5 k hk).1)
      rw [htk.out] at o7
      have HPQ2 : Hid (p + 4 = 4 * (q + 1)) := Lib.hid (by have := HPQ.out; omega)
      clear ho5 r5 b6 hs6 g7
      go_wp2_with fail
      go_roundw
      case rel => exact ⟨q + 1, p + 4, HPQ2, hp4, by go_num, o7, b7⟩
      case measure => simp [intOf]; omega
    · have g3 : ¬ (p : Int) < (n : Int) := by omega
      rw [List.take_of_length_le (by have := HPQ.out; have := HWL.out; omega)] at ho
      obtain ⟨A1, c1, rfl, r1⟩ := ho.r32 hw
      have hob := own_block ho
      clear h
      go_wp2_with fail
      go_ret
      exact ⟨A1, c1, rfl, r1, hbr, hob⟩
theorem own32_empty (w : World) (base : Nat) (hb : base ≤ w.heap.size) : Own32 (w.alloc (.cells #[] 27)) base (.slice (some ⟨w.heap.size, 0, none⟩) 0 0) [] := own32_lits w base [] #[] 0 rfl rfl (by omega) hb
set_option maxHeartbeats 1000000 in
theorem clone_any (A : Option Addr) (n c : Nat) (l : List Nat) (w : World) (h : R32 w w.heap.size A n c l) (hn : n ≤ 900000) :
    Calls Try.prog 83 #[.slice A n c] w (NewWs w l) := by
  rcases A with _ | ad
  · have h0 : n = 0 := by
      rcases Nat.eq_zero_or_pos n with h0 | h0
      · exact h0
      · obtain ⟨b, off, e, _⟩ := h.2.2.2 h0
        cases e
    subst h0
    have hl : l = [] := List.eq_nil_of_length_eq_zero h.1
    subst hl
    have hq : (binOp .eql 29 (.slice none 0 c) (.slice none 0 0)).run Try.prog w = .ok (.bool true) w := Lib.run_eql_slice_nil w 29 27 none 0 c 0 0 Try.underlying29
    go_enter Try.func83, Try.ntmps83
    go_wp2_with fail
    go_ret
    exact ⟨none, 0, rfl, R32.nil _ _ _ _, Below.refl _ _, fun _ e => by cases e⟩
  · have hL := h.1
    have oe := own32_empty w w.heap.size (Nat.le_refl _)
    have hal := (Below.refl w.heap.size w).alloc (Nat.le_refl _) (.cells #[] 27)
    have r5 := h.below hal
    have HBB := Lib.hid (show ([] : List Nat).length + n ≤ 1000000 by simp; omega)
    have hs := hal.size
    have hsm := h.2.2.1
    clear h
    have hq : (binOp .eql 29 (.slice (some ad) n c) (.slice none 0 0)).run Try.prog w = .ok (.bool false) w := Lib.run_eql_slice_nil w 29 27 (some ad) n c 0 0 Try.underlying29
    go_enter Try.func83, Try.ntmps83
    go_wp2_with (at_builtin; ((with_reducible refine wpList_append32 rfl (.tmp 5) (.tmp 6) rfl rfl w.heap.size _ [] (by with_unfolding_all rfl) oe w.heap.size (some ad) n c l (by with_unfolding_all rfl) r5 HBB.out hs ?_); rintro v7 w7 ⟨o7, g7⟩))
    have b7 := below_grown hal hs g7 (fun k hk => (World.ownsRow.lt oe k hk).1)
    rw [List.nil_append] at o7
    obtain ⟨A1, c1, rfl, r1⟩ := o7.r32 hsm
    have hob := own_block o7
    clear oe r5 g7 o7
    go_wp2_with fail
    go_ret
    exact ⟨A1, c1, rfl, r1, b7, hob⟩
end Go.Proofs.Ytnchgmemajmkjaa
namespace Go.Proofs.Ytnchgmemajmkjaa
open Go.RowKit
set_option linter.unusedVariables false
set_option linter.unusedSimpArgs false
set_option maxRecDepth 20000

/-- What is laid into the report at g: it reads as r, its slices are new. -/
def PutOut (w : World) (g : Nat) (r : Rep) (e : Ending) (w' : World) : Prop := ∃ x : Rv, e = .returned (.bool true) ∧ x.r = r ∧ Blk w' g 33 x.cells.toArray ∧ IsR w' w'.heap.size x ∧ x.Lies w.heap.size w'.heap.size ∧ Below g w w'
def PutNo (w : World) (g : Nat) (e : Ending) (w' : World) : Prop := e = .returned (.bool false) ∧ Below g w w'
/-- A report of a kind alone. -/
def kindCells (K : Int) : Array Value := #[.int .i64 K, .int .u32 0, .int .u32 0, .slice none 0 0, .slice none 0 0, .slice none 0 0, .int .u64 0, .int .i64 0, .int .i64 0, .slice none 0 0]
theorem readPli_no (A : Option Addr) (n c : Nat) (g : Nat) (w : World) (hn : n ≠ 2) : Calls Try.prog 70 #[.slice A n c, .pointer (some ⟨g, 0, none⟩)] w (PutNo w g) := by
  have g1 : ((n : Int) != 2) = true := by simp; omega
  clear hn
  go_enter Try.func70, Try.ntmps70
  go_wp2_with fail
  go_ret
  exact ⟨rfl, Below.refl _ _⟩
set_option maxHeartbeats 2000000 in
theorem readPli_yes (A : Option Addr) (c : Nat) (ws : List Nat) (g : Nat) (w : World) (h : R32 w w.heap.size A 2 c ws) (hA : ∀ ad, A = some ad → ad.block ≠ g) (hZ : Blk w g 33 (kindCells 3)) :
    Calls Try.prog 70 #[.slice A 2 c, .pointer (some ⟨g, 0, none⟩)] w (PutOut w g ⟨3, ws.getD 0 0, ws.getD 1 0, [], [], [], 0, 0, 0, []⟩) := by
  obtain ⟨b, off, rfl, hb, c0⟩ := h.getD_at (q := 0) (by omega)
  obtain ⟨b', off', e', hb', c1⟩ := h.getD_at (q := 1) (by omega)
  injection e' with e'
  injection e' with e1 e2 _
  subst e1 e2
  have hne : b ≠ g := hA _ rfl
  have hs0 := h.2.2.1
  have s0 : ws.getD 0 0 < 4294967296 := Small.at hs0 0
  have s1 : ws.getD 1 0 < 4294967296 := Small.at hs0 1
  clear h hA hs0
  generalize ws.getD 0 0 = x0 at c0 s0 ⊢
  generalize ws.getD 1 0 = x1 at c1 s1 ⊢
  simp only [Nat.add_zero] at c0
  obtain ⟨y0, y1, y2, y3, y4, y5, y6, y7, y8, y9⟩ := blk10 hZ
  obtain ⟨f0, f1, f2, f3, f4, f5, f6, f7, f8, f9⟩ := frz10 hZ
  clear y0 y3 y4 y5 y6 y7 y8 y9 f0 f3 f4 f5 f6 f7 f8 f9
  go_enter Try.func70, Try.ntmps70
  go_wp2_with fail
  go_region
  go_wp2_with fail
  have hF := ((hZ.set_ 1 (.int .u32 (x0 : Int))).set_ 2 (.int .u32 (x1 : Int))).drewN 1
  have hG := Below.setCell (Below.setCell (Below.refl g w) (p := ⟨g, 1, none⟩) (Nat.le_refl _) (.int .u32 (x0 : Int))) (p := ⟨g, 2, none⟩) (Nat.le_refl _) (.int .u32 (x1 : Int))
  simp only [kindCells, List.setIfInBounds_toArray, List.set_cons_succ, List.set_cons_zero] at hF
  go_ret
  exact ⟨⟨⟨3, x0, x1, [], [], [], 0, 0, 0, []⟩, none, 0, none, 0, none, 0, none, 0⟩, rfl, rfl, hF, ⟨RT.nil _ _ _ _, R32.nil _ _ _ _, RN.nil _ _ _ _, R8.nil _ _ _ _, Rep.In.of (i64_small (by omega)) s0 s1 (by omega) (i64_small (by omega)) (i64_small (by omega)) (by simp) (by simp) (by simp) (by simp)⟩, (fun ad had => by rcases had with had | had | had | had <;> cases had), hG.drew⟩
theorem cutA_block {b off c i : Nat} {ad : Addr} (h : cutA (some ⟨b, off, none⟩) c i = some ad) : ad.block = b := by
  unfold cutA at h
  split at h
  · injection h with h
    rw [← h]
  · simp only [Option.map_some, Option.some.injEq] at h
    rw [← h]
    unfold Addr.add
    split <;> rfl
theorem run_from32 (w : World) (A : Option Addr) (n c k : Nat) (j : Int) (hj : j = (k : Int)) (hk : k ≤ n) (hn : n ≤ c) :
    (Instr.slice 29 (.slice A n c) (some (.int .i64 j)) none none).run Try.prog w = .ok (.slice (cutA A c k) (n - k) (c - k)) w := by
  subst hj
  have hs : (Try.prog.elem 29) = 27 := by simp [Program.elem, Try.underlying29]
  have h3 := run_slice_l (P := Try.prog) w 29 A n c (by rw [hs]; exact Try.underlying29) .i64 (k : Nat) (by omega) (by omega)
  rw [hs] at h3
  obtain ⟨i0, hi0, hz0, hz1, hz2⟩ := info_parts u32_info
  rw [h3]
  simp [sizeOf, typeInfo, hi0, hz1, sliced, Result.andThen, cutA]
theorem R32.cut {w : World} {B n c : Nat} {A : Option Addr} {l : List Nat} (h : R32 w B A n c l) (i : Nat) (hi : i ≤ n) : R32 w B (cutA A c i) (n - i) (c - i) (l.drop i) := by
  have hl := h.1
  have hc := h.2.1
  refine ⟨by simp; omega, by omega, fun x hx => h.2.2.1 x (List.mem_of_mem_drop hx), fun hn => ?_⟩
  obtain ⟨b, off, rfl, hb, hcell⟩ := h.2.2.2 (by omega)
  unfold cutA
  rw [if_neg (by omega)]
  refine ⟨b, off + i, ?_, hb, fun k hk => ?_⟩
  · simp only [Option.map_some, Addr.add]
    split <;> simp_all
  · rw [Nat.add_assoc, hcell (i + k) (by omega)]
    simp [List.getD, List.getElem?_drop]
def rmB (ws : List Nat) : Bool := decide (4 ≤ ws.length) && (decide (ws.getD 1 0 = 0) && (decide (ws.getD 2 0 = 1380273474) && decide (ws.getD 3 0 / 16777216 = ws.length - 4)))
set_option maxHeartbeats 2000000 in
theorem readRemb_no (A : Option Addr) (n c : Nat) (ws : List Nat) (g : Nat) (w : World) (h : R32 w w.heap.size A n c ws) (hn : n ≤ 250000) (hr : rmB ws = false) : Calls Try.prog 72 #[.slice A n c, .pointer (some ⟨g, 0, none⟩)] w (PutNo w g) := by
  have hl := h.1
  by_cases l1 : n < 4
  · have g1 : decide ((n : Int) < 4) = true := by simp only [decide_eq_true_eq]; omega
    clear h hl hr l1
    go_enter Try.func72, Try.ntmps72
    go_wp2_with fail
    go_ret
    exact ⟨rfl, Below.refl _ _⟩
  have g1 : decide ((n : Int) < 4) = false := by simp only [decide_eq_false_iff_not]; omega
  have b1 : (1 : Int) < (n : Int) := by omega
  have b2 : (2 : Int) < (n : Int) := by omega
  have b3 : (3 : Int) < (n : Int) := by omega
  have d1 : 1 < n := by omega
  have d2 : 2 < n := by omega
  have d3 : 3 < n := by omega
  obtain ⟨b, off, rfl, hb, c1⟩ := h.getD_at (q := 1) (by omega)
  obtain ⟨b', off', e', hb', c2⟩ := h.getD_at (q := 2) (by omega)
  obtain ⟨b'', off'', e'', hb'', c3⟩ := h.getD_at (q := 3) (by omega)
  injection e' with e'
  injection e' with e1 e2 _
  subst e1 e2
  injection e'' with e''
  injection e'' with e1 e2 _
  subst e1 e2
  have s3 : ws.getD 3 0 < 4294967296 := Small.at h.2.2.1 3
  unfold rmB at hr
  rw [hl, decide_eq_true (by omega), Bool.true_and] at hr
  clear h hl l1
  generalize ws.getD 1 0 = x1 at c1 hr
  generalize ws.getD 2 0 = x2 at c2 hr
  generalize ws.getD 3 0 = x3 at c3 hr s3
  by_cases l2 : x1 = 0
  rotate_left
  · have g2 : ((x1 : Int) != 0) = true := by simp; omega
    clear hr l2
    go_enter Try.func72, Try.ntmps72
    go_wp2_with fail
    go_ret
    exact ⟨rfl, Below.refl _ _⟩
  subst l2
  by_cases l3 : x2 = 1380273474
  rotate_left
  · have g2 : ((x2 : Int) != 1380273474) = true := by simp; omega
    clear hr l3
    go_enter Try.func72, Try.ntmps72
    go_wp2_with fail
    go_ret
    exact ⟨rfl, Below.refl _ _⟩
  subst l3
  have l4 : x3 / 16777216 ≠ n - 4 := by simpa using hr
  have g2 : ((x3 : Int) / 16777216 != (n : Int) - 4) = true := by simp; omega
  clear hr l4
  go_enter Try.func72, Try.ntmps72
  go_wp2_with fail
  go_ret
  exact ⟨rfl, Below.refl _ _⟩
set_option maxHeartbeats 2000000 in
theorem readRemb_yes (A : Option Addr) (n c : Nat) (ws : List Nat) (g : Nat) (w : World) (h : R32 w w.heap.size A n c ws) (hA : ∀ ad, A = some ad → ad.block ≠ g) (hn : n ≤ 250000) (hr : rmB ws = true) (hZ : Blk w g 33 (kindCells 5)) :
    Calls Try.prog 72 #[.slice A n c, .pointer (some ⟨g, 0, none⟩)] w (PutOut w g ⟨5, ws.getD 0 0, 0, [], ws.drop 4, [], opN (ws.getD 3 0 / 262144 % 64) (ws.getD 3 0 % 262144), 0, 0, []⟩) := by
  have hl := h.1
  unfold rmB at hr
  simp only [Bool.and_eq_true, decide_eq_true_eq] at hr
  obtain ⟨r1, r2, r3, r4⟩ := hr
  have g1 : decide ((n : Int) < 4) = false := by simp only [decide_eq_false_iff_not]; omega
  have b0 : (0 : Int) < (n : Int) := by omega
  have b1 : (1 : Int) < (n : Int) := by omega
  have b2 : (2 : Int) < (n : Int) := by omega
  have b3 : (3 : Int) < (n : Int) := by omega
  have d0 : 0 < n := by omega
  have d1 : 1 < n := by omega
  have d2 : 2 < n := by omega
  have d3 : 3 < n := by omega
  obtain ⟨b, off, rfl, hb, c0⟩ := h.getD_at (q := 0) (by omega)
  obtain ⟨b', off', e', hb', c1⟩ := h.getD_at (q := 1) (by omega)
  injection e' with e'
  injection e' with e1 e2 _
  subst e1 e2
  obtain ⟨b', off', e', hb', c2⟩ := h.getD_at (q := 2) (by omega)
  injection e' with e'
  injection e' with e1 e2 _
  subst e1 e2
  obtain ⟨b', off', e', hb', c3⟩ := h.getD_at (q := 3) (by omega)
  injection e' with e'
  injection e' with e1 e2 _
  subst e1 e2
  have s0 : ws.getD 0 0 < 4294967296 := Small.at h.2.2.1 0
  have s3 : ws.getD 3 0 < 4294967296 := Small.at h.2.2.1 3
  rw [r2] at c1
  rw [r3] at c2
  have hne : b ≠ g := hA _ rfl
  have hcut := h.cut 4 (by omega)
  have hrun := fun W => run_from32 W (some ⟨b, off, none⟩) n c 4 4 rfl (by omega) h.2.1
  have hdl : (ws.drop 4).length = n - 4 := by rw [List.length_drop, hl]
  rw [hl] at r4
  clear h hA r1 r2 r3 hl
  generalize ws.drop 4 = ab at hcut hdl ⊢
  generalize ws.getD 0 0 = x0 at c0 s0 ⊢
  generalize ws.getD 3 0 = x3 at c3 r4 s3 ⊢
  simp only [Nat.add_zero] at c0
  have hE1 := and32 6 (by omega) (x3 / 262144) (by omega) 63 rfl
  have hM1 := and32 18 (by omega) x3 s3 262143 rfl
  have hE64 : x3 / 262144 % 2 ^ 6 < 64 := by omega
  have hM64 : x3 % 2 ^ 18 < 262144 := by omega
  have hro : opR ((x3 / 262144 % 2 ^ 6 : Nat) : Int) (x3 % 2 ^ 18) 18 = opN (x3 / 262144 % 64) (x3 % 262144) := by
    unfold opR
    rw [if_pos ⟨by omega, by omega, by simpa using hM64⟩]
    rfl
  have hop : ∀ W, Calls Try.prog 82 #[.int .i64 ((x3 / 262144 % 2 ^ 6 : Nat) : Int), .int .u32 ((x3 % 2 ^ 18 : Nat) : Int), .int .i64 18] W (AnsS (.int .u64 (opR ((x3 / 262144 % 2 ^ 6 : Nat) : Int) (x3 % 2 ^ 18) 18 : Int)) W) := fun W => rate_open_s _ _ 18 W (by omega)
  rw [hro] at hop
  have hR : opN (x3 / 262144 % 64) (x3 % 262144) < 18446744073709551616 := by unfold opN; omega
  generalize opN (x3 / 262144 % 64) (x3 % 262144) = R at hop hR ⊢
  have hs18 : ((x3 : Int) / 262144) = ((x3 / 262144 : Nat) : Int) := by simp
  have hs24 : ((x3 : Int) / 16777216) = (n : Int) - 4 := by omega
  have g2 : ((x3 : Int) / 16777216 != (n : Int) - 4) = false := by simp; omega
  generalize x3 / 262144 % 2 ^ 6 = E at hE1 hE64 hop
  generalize x3 / 262144 = S at hs18 hE1
  generalize x3 % 2 ^ 18 = M at hM1 hM64 hop
  have HS := Lib.hid hs18
  have HE := Lib.hid hE1
  have HM := Lib.hid hM1
  have HRUN := Lib.hid hrun
  have HDL := Lib.hid hdl
  clear hs18 hE1 hM1 r4 hs24 hrun hro hdl
  obtain ⟨y0, y1, y2, y3, y4, y5, y6, y7, y8, y9⟩ := blk10 hZ
  obtain ⟨f0, f1, f2, f3, f4, f5, f6, f7, f8, f9⟩ := frz10 hZ
  clear y0 y2 y3 y5 y7 y8 y9 f0 f2 f3 f5 f7 f8 f9
  go_enter Try.func72, Try.ntmps72
  go_upto_region 3 with (fail)
  clear g2 c1 c2
  go_upto_region 4 with (fail)
  have e5 : wrap64 (bits .and .u32 ((x3 : Int) / 262144) 63) = (E : Int) := by rw [HS.out, HE.out]; exact wrap_i64 (by unfold I64; omega)
  rw [e5]
  clear e5
  go_upto_region 5 with (fail)
  have hg := hZ.lt
  have bn1 := but_setCell w g 1 (.int .u32 (x0 : Int))
  have bG1 := Below.setCell (Below.refl g w) (p := ⟨g, 1, none⟩) (Nat.le_refl _) (.int .u32 (x0 : Int))
  have c31 : (w.setCell ⟨g, 1, none⟩ (.int .u32 (x0 : Int))).cell? ⟨b, off + 3, none⟩ = some (.int .u32 (x3 : Int)) := by
    rw [World.cell?_setCell_other _ _ _ _ (by intro e; have := congrArg Addr.block e; simp at this; omega)]
    exact c3
  have hZ1 := hZ.set_ 1 (.int .u32 (x0 : Int))
  have hct1 := hcut.but bn1 (fun ad e => by rw [cutA_block e]; exact hne)
  simp only [kindCells, List.setIfInBounds_toArray, List.set_cons_succ, List.set_cons_zero] at hZ1
  clear y1 f1 y4 f4 y6 f6 c0 c3 hcut hZ
  have hsz1 : w.heap.size ≤ (w.setCell ⟨g, 1, none⟩ (.int .u32 (x0 : Int))).heap.size := bn1.size
  generalize w.setCell ⟨g, 1, none⟩ (.int .u32 (x0 : Int)) = W1 at bn1 bG1 c31 hZ1 hct1 hsz1 ⊢
  obtain ⟨y0, y1, y2, y3, y4, y5, y6, y7, y8, y9⟩ := blk10 hZ1
  obtain ⟨f0, f1, f2, f3, f4, f5, f6, f7, f8, f9⟩ := frz10 hZ1
  clear y0 y1 y2 y3 y5 y7 y8 y9 f0 f1 f2 f3 f5 f7 f8 f9
  go_wp2_with fail
  rw [HM.out]
  ((with_reducible refine (hop _).mono ?_); rintro e w3 ⟨rfl, rfl⟩)
  clear hop
  go_upto_region 6 with (fail)
  have bn2 := but_setCell W1 g 6 (.int .u64 (R : Int))
  have bG2 := Below.setCell bG1 (p := ⟨g, 6, none⟩) (Nat.le_refl _) (.int .u64 (R : Int))
  have hZ2 := hZ1.set_ 6 (.int .u64 (R : Int))
  have hcA : ∀ ad, cutA (some ⟨b, off, none⟩) c 4 = some ad → ad.block ≠ g := fun ad e => by rw [cutA_block e]; exact hne
  have hct2 := hct1.but bn2 hcA
  have hsz2 : w.heap.size ≤ (W1.setCell ⟨g, 6, none⟩ (.int .u64 (R : Int))).heap.size := Nat.le_trans hsz1 bn2.size
  simp only [List.setIfInBounds_toArray, List.set_cons_succ, List.set_cons_zero] at hZ2
  clear y4 f4 y6 f6 c31 hZ1 hct1 bG1 bn1
  generalize W1.setCell ⟨g, 6, none⟩ (.int .u64 (R : Int)) = W2 at bn2 bG2 hZ2 hct2 hsz2 ⊢
  have hrun := HRUN.out W2
  have hcl := clone_any _ _ _ _ W2 hct2 (by omega)
  have hg2 := hZ2.lt
  clear bn2
  go_wp2_with fail
  ((with_reducible refine hcl.mono ?_); rintro e w4 ⟨A4, c4, rfl, r4, b4, lo4⟩)
  have hZ4 := hZ2.below b4 hg2
  have bG4 := bG2.trans (b4.mono (Nat.le_of_lt hg2))
  obtain ⟨y0, y1, y2, y3, y4, y5, y6, y7, y8, y9⟩ := blk10 hZ4
  obtain ⟨f0, f1, f2, f3, f4, f5, f6, f7, f8, f9⟩ := frz10 hZ4
  have hsz4 := b4.size
  clear y0 y1 y2 y3 y5 y6 y7 y8 y9 f0 f1 f2 f3 f5 f6 f7 f8 f9 hcl hrun hct2 hZ2 b4
  go_wp2_with fail
  have hF := hZ4.set_ 4 (.slice A4 ab.length c4)
  have hG := Below.setCell bG4 (p := ⟨g, 4, none⟩) (Nat.le_refl _) (.slice A4 ab.length c4)
  have bn5 := but_setCell w4 g 4 (.slice A4 ab.length c4)
  have hX : IsR w4 w4.heap.size ⟨⟨5, x0, 0, [], ab, [], R, 0, 0, []⟩, none, 0, A4, c4, none, 0, none, 0⟩ := ⟨RT.nil _ _ _ _, r4, RN.nil _ _ _ _, R8.nil _ _ _ _, Rep.In.of (i64_small (by omega)) s0 (by omega) hR (i64_small (by omega)) (i64_small (by omega)) (by simp) (by have := HDL.out; omega) (by simp) (by simp)⟩
  have hlow : Rv.Lies ⟨⟨5, x0, 0, [], ab, [], R, 0, 0, []⟩, none, 0, A4, c4, none, 0, none, 0⟩ w.heap.size w4.heap.size := by
    intro ad had
    rcases had with had | had | had | had
    · cases had
    · exact ⟨by have := (lo4 ad had).1; omega, (lo4 ad had).2⟩
    · cases had
    · cases had
  have hX5 := hX.but bn5 (fun ad had e => by have := (hlow ad had).1; have := (lo4 ad (by rcases had with had | had | had | had <;> first | exact had | cases had)).1; omega)
  have hs5 : (w4.setCell ⟨g, 4, none⟩ (.slice A4 ab.length c4)).heap.size = w4.heap.size := by simp [World.setCell]
  rw [← hs5] at hlow
  simp only [List.setIfInBounds_toArray, List.set_cons_succ, List.set_cons_zero] at hF
  clear hs5
  generalize w4.setCell ⟨g, 4, none⟩ (.slice A4 ab.length c4) = W5 at hF hG hX5 hlow ⊢
  go_ret
  exact ⟨⟨⟨5, x0, 0, [], ab, [], R, 0, 0, []⟩, none, 0, A4, c4, none, 0, none, 0⟩, rfl, rfl, hF, hX5, hlow, hG⟩
end Go.Proofs.Ytnchgmemajmkjaa
