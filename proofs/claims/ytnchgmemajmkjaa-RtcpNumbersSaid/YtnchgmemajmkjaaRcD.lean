/- Contracts: limelightref6.word; parse of Other and Pli. -/
import Derived.Test.YtnchgmemajmkjaaRcZ
import Derived.Test.YtnchgmemajmkjaaRcQ
import Derived.Test.YtnchgmemajmkjaaCRefGet
namespace Go.Proofs.Ytnchgmemajmkjaa
open Go.RowKit
set_option linter.unusedVariables false
set_option linter.unusedSimpArgs false
set_option maxRecDepth 20000

def Small (ws : List Nat) : Prop := ∀ x ∈ ws, x < 4294967296
theorem Small.at {ws : List Nat} (h : Small ws) (i : Nat) : ws.getD i 0 < 4294967296 := by
  rw [List.getD_eq_getElem?_getD]
  cases hh : ws[i]? with
  | none => simp
  | some x => exact h x (List.mem_of_getElem? hh)
theorem ref6_word (A : Option Addr) (n c : Nat) (ws : List Nat) (w : World) (h : R8 w w.heap.size A n c (wB ws)) (hw : Small ws) (hn : n ≤ 1000000) (i : Nat) (k : Int) (hk : k = (i : Int)) (hi : i ≤ 1000000) :
    Calls Try.prog 79 #[.slice A n c, .int .i64 k] w (AnsS (.int .u32 ((ws.getD i 0 : Nat) : Int)) w) := by
  subst hk
  have hg := ref_get_any A n c (wB ws) w h (by omega) (4 * (i : Int)) 4 (by unfold I64; omega)
  rw [get_w ws i hw] at hg
  have hs := hw.at i
  generalize ws.getD i 0 = v at hg hs
  generalize getB n (4 * (i : Int)) 4 = ok at hg
  clear h
  go_enter Try.func79, Try.ntmps79
  go_wp2_with fail
  ((with_reducible refine hg.mono ?_); rintro e w1 ⟨rfl, rfl⟩)
  clear hg
  go_wp2_with fail
  go_ret
  exact ⟨rfl, rfl⟩
set_option maxHeartbeats 2000000 in
theorem parse_other (t cn : Int) (A : Option Addr) (n c : Nat) (ws : List Nat) (w : World) (h : R8 w w.heap.size A n c (wB ws)) (hw : Small ws) (hn : n ≤ 1000000) (ht : oursTC t cn = false) (ht64 : I64 t) (hc64 : I64 cn) :
    Calls Try.prog 57 #[.int .i64 t, .int .i64 cn, .slice A n c] w (NewRep w (parseR t cn ws)) := by
  have hp : parseR t cn ws = ⟨6, 0, 0, [], [], [], 0, t, cn, wB ws⟩ := if_pos ht
  rw [hp]
  clear hp
  have hkn := fun W => ref6_known t cn W
  rw [ht] at hkn
  clear ht
  generalize hT : wB ws = T at *
  have HT := Lib.hid hT
  clear hT
  have hb1 : Below w.heap.size w (w.alloc (.cells #[Value.int .i64 0, .int .u32 0, .int .u32 0, .slice none 0 0, .slice none 0 0, .slice none 0 0, .int .u64 0, .int .i64 0, .int .i64 0, .slice none 0 0] 33)) := (Below.refl _ w).alloc (Nat.le_refl _) _
  have hwd := ref6_word A n c ws _ (by rw [HT.out]; exact h.on hb1) hw hn 0 0 rfl (by omega)
  have hf := hw.at 0
  generalize ws.getD 0 0 = f at hwd hf ⊢
  go_enter Try.func57, Try.ntmps57
  go_wp2_with fail
  ((with_reducible refine hwd.mono ?_); rintro e w1 ⟨rfl, rfl⟩)
  clear hwd
  go_wp2_with fail
  ((with_reducible refine (hkn _).mono ?_); rintro e w1 ⟨rfl, rfl⟩)
  clear hkn
  go_upto_region 11 with (fail)
  have hbV := hb1.alloc hb1.size (.cells #[Value.int .i64 0, .int .u32 (f : Int), .int .u32 0, .slice none 0 0, .slice none 0 0, .slice none 0 0, .int .u64 0, .int .i64 0, .int .i64 0, .slice none 0 0] 33)
  have hZ0 : Blk ((w.alloc (.cells #[Value.int .i64 0, .int .u32 0, .int .u32 0, .slice none 0 0, .slice none 0 0, .slice none 0 0, .int .u64 0, .int .i64 0, .int .i64 0, .slice none 0 0] 33)).alloc (.cells #[Value.int .i64 0, .int .u32 (f : Int), .int .u32 0, .slice none 0 0, .slice none 0 0, .slice none 0 0, .int .u64 0, .int .i64 0, .int .i64 0, .slice none 0 0] 33)) w.heap.size 33 #[Value.int .i64 0, .int .u32 0, .int .u32 0, .slice none 0 0, .slice none 0 0, .slice none 0 0, .int .u64 0, .int .i64 0, .int .i64 0, .slice none 0 0] := (Blk.new w _ _).alloc _
  have hZ1 : Blk ((w.alloc (.cells #[Value.int .i64 0, .int .u32 0, .int .u32 0, .slice none 0 0, .slice none 0 0, .slice none 0 0, .int .u64 0, .int .i64 0, .int .i64 0, .slice none 0 0] 33)).alloc (.cells #[Value.int .i64 0, .int .u32 (f : Int), .int .u32 0, .slice none 0 0, .slice none 0 0, .slice none 0 0, .int .u64 0, .int .i64 0, .int .i64 0, .slice none 0 0] 33)) (w.heap.size + 1) 33 #[Value.int .i64 0, .int .u32 (f : Int), .int .u32 0, .slice none 0 0, .slice none 0 0, .slice none 0 0, .int .u64 0, .int .i64 0, .int .i64 0, .slice none 0 0] := by
    have h1 := Blk.new (w.alloc (.cells #[Value.int .i64 0, .int .u32 0, .int .u32 0, .slice none 0 0, .slice none 0 0, .slice none 0 0, .int .u64 0, .int .i64 0, .int .i64 0, .slice none 0 0] 33)) 33 #[Value.int .i64 0, .int .u32 (f : Int), .int .u32 0, .slice none 0 0, .slice none 0 0, .slice none 0 0, .int .u64 0, .int .i64 0, .int .i64 0, .slice none 0 0]
    have h2 : (w.alloc (.cells #[Value.int .i64 0, .int .u32 0, .int .u32 0, .slice none 0 0, .slice none 0 0, .slice none 0 0, .int .u64 0, .int .i64 0, .int .i64 0, .slice none 0 0] 33)).heap.size = w.heap.size + 1 := by simp
    rwa [h2] at h1
  have hsV : ((w.alloc (.cells #[Value.int .i64 0, .int .u32 0, .int .u32 0, .slice none 0 0, .slice none 0 0, .slice none 0 0, .int .u64 0, .int .i64 0, .int .i64 0, .slice none 0 0] 33)).alloc (.cells #[Value.int .i64 0, .int .u32 (f : Int), .int .u32 0, .slice none 0 0, .slice none 0 0, .slice none 0 0, .int .u64 0, .int .i64 0, .int .i64 0, .slice none 0 0] 33)).heap.size = w.heap.size + 2 := by simp
  have hRV := h.on hbV
  generalize ((w.alloc (.cells #[Value.int .i64 0, .int .u32 0, .int .u32 0, .slice none 0 0, .slice none 0 0, .slice none 0 0, .int .u64 0, .int .i64 0, .int .i64 0, .slice none 0 0] 33)).alloc (.cells #[Value.int .i64 0, .int .u32 (f : Int), .int .u32 0, .slice none 0 0, .slice none 0 0, .slice none 0 0, .int .u64 0, .int .i64 0, .int .i64 0, .slice none 0 0] 33)) = V at hbV hZ0 hZ1 hsV hRV ⊢
  have HSV := Lib.hid hsV
  have hlt0 : w.heap.size < V.heap.size := by omega
  have hlt1 : w.heap.size + 1 < V.heap.size := by omega
  clear hsV hb1 h
  have oe := Own8.empty V V.heap.size (Nat.le_refl _)
  have hRA := hRV.alloc (Nat.le_refl _) (.cells #[] 5)
  have hl : T.length ≤ 1000000 := by rw [hRV.1]; exact hn
  have hbb : ([] : List UInt8).length + n ≤ 140737488355328 := by simp; omega
  have HBB := Lib.hid hbb
  clear hbb
  go_wp2_with (at_builtin; go_loud ((with_reducible refine wpList_append8 rfl (.tmp 51) (.tmp 52) rfl rfl V.heap.size _ _ (by with_unfolding_all rfl) oe V.heap.size A n c _ (by with_unfolding_all rfl) hRA HBB.out (by simp) ?_); intro v7 W ha7; have bW := below_grown ((Below.refl V.heap.size V).alloc (Nat.le_refl _) _) (by simp) ha7.2.1 (fun k hk => (World.ownsRow.lt oe k hk).1); obtain ⟨y0, y1, y2, y3, y4, y5, y6, y7, y8, y9⟩ := blk10 (hZ0.below bW hlt0); obtain ⟨z0, z1, z2, z3, z4, z5, z6, z7, z8, z9⟩ := frz10 (hZ0.below bW hlt0); have o7 := ha7.1; rw [List.nil_append] at o7; obtain ⟨A7, c7, rfl, r7⟩ := o7.r8))
  have hbW := hbV.trans (bW.mono hbV.size)
  have hA7 := own_block o7
  have hXW : IsR W W.heap.size ⟨⟨6, 0, 0, [], [], [], 0, t, cn, T⟩, none, 0, none, 0, none, 0, A7, c7⟩ := ⟨RT.nil _ _ _ _, R32.nil _ _ _ _, RN.nil _ _ _ _, r7, Rep.In.of (i64_small (by omega)) (by omega) (by omega) (by omega) ht64 hc64 (by simp) (by simp) (by simp) (by omega)⟩
  have hoff : Rv.Off ⟨⟨6, 0, 0, [], [], [], 0, t, cn, T⟩, none, 0, none, 0, none, 0, A7, c7⟩ w.heap.size := by
    intro ad had
    rcases had with had | had | had | had
    · cases had
    · cases had
    · cases had
    · have := hA7 ad had; omega
  have hlies : Rv.Lies ⟨⟨6, 0, 0, [], [], [], 0, t, cn, T⟩, none, 0, none, 0, none, 0, A7, c7⟩ w.heap.size W.heap.size := by
    intro ad had
    rcases had with had | had | had | had
    · cases had
    · cases had
    · cases had
    · have := hA7 ad had; omega
  have hty : Rv.Typed ⟨⟨6, 0, 0, [], [], [], 0, t, cn, T⟩, none, 0, none, 0, none, 0, A7, c7⟩ W := by
    intro ad had
    rcases had with had | had | had | had
    · cases had
    · cases had
    · cases had
    · exact own_typed o7 (by decide) ad had
  have hZ0 := hZ0.below bW hlt0
  have hF := set10_blk (W := W) (v0 := .int .i64 6) (v1 := .int .u32 0) (v2 := .int .u32 0) (v3 := .slice none 0 0) (v4 := .slice none 0 0) (v5 := .slice none 0 0) (v6 := .int .u64 0) (v7 := .int .i64 t) (v8 := .int .i64 cn) (v9 := .slice A7 T.length c7) hZ0
  have hG : Below w.heap.size w (set10 (W) w.heap.size (.int .i64 6) (.int .u32 0) (.int .u32 0) (.slice none 0 0) (.slice none 0 0) (.slice none 0 0) (.int .u64 0) (.int .i64 t) (.int .i64 cn) (.slice A7 T.length c7)) := hbW.trans (set10_below (Nat.le_refl _))
  have hX := hXW.but (but_set10 (W) w.heap.size (.int .i64 6) (.int .u32 0) (.int .u32 0) (.slice none 0 0) (.slice none 0 0) (.slice none 0 0) (.int .u64 0) (.int .i64 t) (.int .i64 cn) (.slice A7 T.length c7)) hoff
  have hTy := hty.same (w' := set10 (W) w.heap.size (.int .i64 6) (.int .u32 0) (.int .u32 0) (.slice none 0 0) (.slice none 0 0) (.slice none 0 0) (.int .u64 0) (.int .i64 t) (.int .i64 cn) (.slice A7 T.length c7)) hoff (fun k hk => set10_far hk)
  have hS : (set10 (W) w.heap.size (.int .i64 6) (.int .u32 0) (.int .u32 0) (.slice none 0 0) (.slice none 0 0) (.slice none 0 0) (.int .u64 0) (.int .i64 t) (.int .i64 cn) (.slice A7 T.length c7)).heap.size = (W).heap.size := set10_size
  rw [← hS] at hlies
  clear hS
  change bodyPost _ _ _ _ _ (set10 (W) w.heap.size (.int .i64 6) (.int .u32 0) (.int .u32 0) (.slice none 0 0) (.slice none 0 0) (.slice none 0 0) (.int .u64 0) (.int .i64 t) (.int .i64 cn) (.slice A7 T.length c7))
  generalize set10 (W) w.heap.size (.int .i64 6) (.int .u32 0) (.int .u32 0) (.slice none 0 0) (.slice none 0 0) (.slice none 0 0) (.int .u64 0) (.int .i64 t) (.int .i64 cn) (.slice A7 T.length c7) = WF at hF hG hX hlies hTy ⊢
  obtain ⟨f0, f1, f2, f3, f4, f5, f6, f7, f8, f9⟩ := blk10 hF
  clear y0 y1 y2 y3 y4 y5 y6 y7 y8 y9 z0 z1 z2 z3 z4 z5 z6 z7 z8 z9
  refine bodyPost_ret (by simp [results, Try.results57, go_sem, f0, f1, f2, f3, f4, f5, f6, f7, f8, f9]; try rfl) rfl ?_
  exact ⟨⟨⟨6, 0, 0, [], [], [], 0, t, cn, T⟩, none, 0, none, 0, none, 0, A7, c7⟩, rfl, rfl, hX, hlies, hTy, hG⟩
set_option maxHeartbeats 2000000 in
theorem parse_pli (A : Option Addr) (n c : Nat) (ws : List Nat) (w : World) (h : R8 w w.heap.size A n c (wB ws)) (hw : Small ws) (hn : n ≤ 1000000) :
    Calls Try.prog 57 #[.int .i64 206, .int .i64 1, .slice A n c] w (NewRep w (parseR 206 1 ws)) := by
  have hp : parseR 206 1 ws = ⟨3, ws.getD 0 0, ws.getD 1 0, [], [], [], 0, 0, 0, []⟩ := rfl
  rw [hp]
  clear hp
  have hkn := fun W => ref6_known 206 1 W
  rw [show oursTC 206 1 = true from rfl] at hkn
  have hb1 : Below w.heap.size w (w.alloc (.cells #[Value.int .i64 0, .int .u32 0, .int .u32 0, .slice none 0 0, .slice none 0 0, .slice none 0 0, .int .u64 0, .int .i64 0, .int .i64 0, .slice none 0 0] 33)) := (Below.refl _ w).alloc (Nat.le_refl _) _
  have hwd := ref6_word A n c ws _ (h.on hb1) hw hn 0 0 rfl (by omega)
  have hf := hw.at 0
  generalize ws.getD 0 0 = f at hwd hf ⊢
  go_enter Try.func57, Try.ntmps57
  go_wp2_with fail
  ((with_reducible refine hwd.mono ?_); rintro e w1 ⟨rfl, rfl⟩)
  clear hwd
  go_wp2_with fail
  ((with_reducible refine (hkn _).mono ?_); rintro e w1 ⟨rfl, rfl⟩)
  clear hkn
  go_upto_region 12 with (fail)
  have hbV := hb1.alloc hb1.size (.cells #[Value.int .i64 0, .int .u32 (f : Int), .int .u32 0, .slice none 0 0, .slice none 0 0, .slice none 0 0, .int .u64 0, .int .i64 0, .int .i64 0, .slice none 0 0] 33)
  have hZ0 : Blk ((w.alloc (.cells #[Value.int .i64 0, .int .u32 0, .int .u32 0, .slice none 0 0, .slice none 0 0, .slice none 0 0, .int .u64 0, .int .i64 0, .int .i64 0, .slice none 0 0] 33)).alloc (.cells #[Value.int .i64 0, .int .u32 (f : Int), .int .u32 0, .slice none 0 0, .slice none 0 0, .slice none 0 0, .int .u64 0, .int .i64 0, .int .i64 0, .slice none 0 0] 33)) w.heap.size 33 #[Value.int .i64 0, .int .u32 0, .int .u32 0, .slice none 0 0, .slice none 0 0, .slice none 0 0, .int .u64 0, .int .i64 0, .int .i64 0, .slice none 0 0] := (Blk.new w _ _).alloc _
  have hZ1 : Blk ((w.alloc (.cells #[Value.int .i64 0, .int .u32 0, .int .u32 0, .slice none 0 0, .slice none 0 0, .slice none 0 0, .int .u64 0, .int .i64 0, .int .i64 0, .slice none 0 0] 33)).alloc (.cells #[Value.int .i64 0, .int .u32 (f : Int), .int .u32 0, .slice none 0 0, .slice none 0 0, .slice none 0 0, .int .u64 0, .int .i64 0, .int .i64 0, .slice none 0 0] 33)) (w.heap.size + 1) 33 #[Value.int .i64 0, .int .u32 (f : Int), .int .u32 0, .slice none 0 0, .slice none 0 0, .slice none 0 0, .int .u64 0, .int .i64 0, .int .i64 0, .slice none 0 0] := by
    have h1 := Blk.new (w.alloc (.cells #[Value.int .i64 0, .int .u32 0, .int .u32 0, .slice none 0 0, .slice none 0 0, .slice none 0 0, .int .u64 0, .int .i64 0, .int .i64 0, .slice none 0 0] 33)) 33 #[Value.int .i64 0, .int .u32 (f : Int), .int .u32 0, .slice none 0 0, .slice none 0 0, .slice none 0 0, .int .u64 0, .int .i64 0, .int .i64 0, .slice none 0 0]
    have h2 : (w.alloc (.cells #[Value.int .i64 0, .int .u32 0, .int .u32 0, .slice none 0 0, .slice none 0 0, .slice none 0 0, .int .u64 0, .int .i64 0, .int .i64 0, .slice none 0 0] 33)).heap.size = w.heap.size + 1 := by simp
    rwa [h2] at h1
  have hsV : ((w.alloc (.cells #[Value.int .i64 0, .int .u32 0, .int .u32 0, .slice none 0 0, .slice none 0 0, .slice none 0 0, .int .u64 0, .int .i64 0, .int .i64 0, .slice none 0 0] 33)).alloc (.cells #[Value.int .i64 0, .int .u32 (f : Int), .int .u32 0, .slice none 0 0, .slice none 0 0, .slice none 0 0, .int .u64 0, .int .i64 0, .int .i64 0, .slice none 0 0] 33)).heap.size = w.heap.size + 2 := by simp
  have hRV := h.on hbV
  generalize ((w.alloc (.cells #[Value.int .i64 0, .int .u32 0, .int .u32 0, .slice none 0 0, .slice none 0 0, .slice none 0 0, .int .u64 0, .int .i64 0, .int .i64 0, .slice none 0 0] 33)).alloc (.cells #[Value.int .i64 0, .int .u32 (f : Int), .int .u32 0, .slice none 0 0, .slice none 0 0, .slice none 0 0, .int .u64 0, .int .i64 0, .int .i64 0, .slice none 0 0] 33)) = V at hbV hZ0 hZ1 hsV hRV ⊢
  have HSV := Lib.hid hsV
  have hlt0 : w.heap.size < V.heap.size := by omega
  have hlt1 : w.heap.size + 1 < V.heap.size := by omega
  clear hsV hb1 h
  have hwd := ref6_word A n c ws V hRV hw hn 1 1 rfl (by omega)
  have ha := hw.at 1
  generalize hab : ws.getD 1 0 = ab at hwd ha
  have HAB := Lib.hid hab
  clear hab
  obtain ⟨y0, y1, y2, y3, y4, y5, y6, y7, y8, y9⟩ := blk10 hZ0
  obtain ⟨z0, z1, z2, z3, z4, z5, z6, z7, z8, z9⟩ := frz10 hZ0
  obtain ⟨p0, p1, p2, p3, p4, p5, p6, p7, p8, p9⟩ := blk10 hZ1
  obtain ⟨q0, q1, q2, q3, q4, q5, q6, q7, q8, q9⟩ := frz10 hZ1
  go_wp2_with fail
  ((with_reducible refine hwd.mono ?_); rintro e w1 ⟨rfl, rfl⟩)
  clear hwd
  go_wp2_with fail
  have hbW : Below w.heap.size w ((V.setCell ⟨w.heap.size + 1, 0, none⟩ (.int .i64 3)).setCell ⟨w.heap.size + 1, 2, none⟩ (.int .u32 (ab : Int))) := Below.setCell (Below.setCell hbV (p := ⟨w.heap.size + 1, 0, none⟩) (by simp) _) (p := ⟨w.heap.size + 1, 2, none⟩) (by simp) _
  have hXW : IsR ((V.setCell ⟨w.heap.size + 1, 0, none⟩ (.int .i64 3)).setCell ⟨w.heap.size + 1, 2, none⟩ (.int .u32 (ab : Int))) ((V.setCell ⟨w.heap.size + 1, 0, none⟩ (.int .i64 3)).setCell ⟨w.heap.size + 1, 2, none⟩ (.int .u32 (ab : Int))).heap.size ⟨⟨3, f, ab, [], [], [], 0, 0, 0, []⟩, none, 0, none, 0, none, 0, none, 0⟩ := ⟨RT.nil _ _ _ _, R32.nil _ _ _ _, RN.nil _ _ _ _, R8.nil _ _ _ _, Rep.In.of (i64_small (by omega)) hf ha (by omega) (i64_small (by omega)) (i64_small (by omega)) (by simp) (by simp) (by simp) (by simp)⟩
  have hoff : Rv.Off ⟨⟨3, f, ab, [], [], [], 0, 0, 0, []⟩, none, 0, none, 0, none, 0, none, 0⟩ w.heap.size := by
    intro ad had
    rcases had with had | had | had | had <;> cases had
  have hlies : Rv.Lies ⟨⟨3, f, ab, [], [], [], 0, 0, 0, []⟩, none, 0, none, 0, none, 0, none, 0⟩ w.heap.size ((V.setCell ⟨w.heap.size + 1, 0, none⟩ (.int .i64 3)).setCell ⟨w.heap.size + 1, 2, none⟩ (.int .u32 (ab : Int))).heap.size := by
    intro ad had
    rcases had with had | had | had | had <;> cases had
  have hty : Rv.Typed ⟨⟨3, f, ab, [], [], [], 0, 0, 0, []⟩, none, 0, none, 0, none, 0, none, 0⟩ ((V.setCell ⟨w.heap.size + 1, 0, none⟩ (.int .i64 3)).setCell ⟨w.heap.size + 1, 2, none⟩ (.int .u32 (ab : Int))) := by
    intro ad had
    rcases had with had | had | had | had <;> cases had
  have hZ0 : Blk ((V.setCell ⟨w.heap.size + 1, 0, none⟩ (.int .i64 3)).setCell ⟨w.heap.size + 1, 2, none⟩ (.int .u32 (ab : Int))) w.heap.size 33 #[Value.int .i64 0, .int .u32 0, .int .u32 0, .slice none 0 0, .slice none 0 0, .slice none 0 0, .int .u64 0, .int .i64 0, .int .i64 0, .slice none 0 0] := (hZ0.far (p := ⟨w.heap.size + 1, 0, none⟩) (by simp) _).far (p := ⟨w.heap.size + 1, 2, none⟩) (by simp) _
  have hF := set10_blk (W := (V.setCell ⟨w.heap.size + 1, 0, none⟩ (.int .i64 3)).setCell ⟨w.heap.size + 1, 2, none⟩ (.int .u32 (ab : Int))) (v0 := .int .i64 3) (v1 := .int .u32 (f : Int)) (v2 := .int .u32 (ab : Int)) (v3 := .slice none 0 0) (v4 := .slice none 0 0) (v5 := .slice none 0 0) (v6 := .int .u64 0) (v7 := .int .i64 0) (v8 := .int .i64 0) (v9 := .slice none 0 0) hZ0
  have hG : Below w.heap.size w (set10 ((V.setCell ⟨w.heap.size + 1, 0, none⟩ (.int .i64 3)).setCell ⟨w.heap.size + 1, 2, none⟩ (.int .u32 (ab : Int))) w.heap.size (.int .i64 3) (.int .u32 (f : Int)) (.int .u32 (ab : Int)) (.slice none 0 0) (.slice none 0 0) (.slice none 0 0) (.int .u64 0) (.int .i64 0) (.int .i64 0) (.slice none 0 0)) := hbW.trans (set10_below (Nat.le_refl _))
  have hX := hXW.but (but_set10 ((V.setCell ⟨w.heap.size + 1, 0, none⟩ (.int .i64 3)).setCell ⟨w.heap.size + 1, 2, none⟩ (.int .u32 (ab : Int))) w.heap.size (.int .i64 3) (.int .u32 (f : Int)) (.int .u32 (ab : Int)) (.slice none 0 0) (.slice none 0 0) (.slice none 0 0) (.int .u64 0) (.int .i64 0) (.int .i64 0) (.slice none 0 0)) hoff
  have hTy := hty.same (w' := set10 ((V.setCell ⟨w.heap.size + 1, 0, none⟩ (.int .i64 3)).setCell ⟨w.heap.size + 1, 2, none⟩ (.int .u32 (ab : Int))) w.heap.size (.int .i64 3) (.int .u32 (f : Int)) (.int .u32 (ab : Int)) (.slice none 0 0) (.slice none 0 0) (.slice none 0 0) (.int .u64 0) (.int .i64 0) (.int .i64 0) (.slice none 0 0)) hoff (fun k hk => set10_far hk)
  have hS : (set10 ((V.setCell ⟨w.heap.size + 1, 0, none⟩ (.int .i64 3)).setCell ⟨w.heap.size + 1, 2, none⟩ (.int .u32 (ab : Int))) w.heap.size (.int .i64 3) (.int .u32 (f : Int)) (.int .u32 (ab : Int)) (.slice none 0 0) (.slice none 0 0) (.slice none 0 0) (.int .u64 0) (.int .i64 0) (.int .i64 0) (.slice none 0 0)).heap.size = ((V.setCell ⟨w.heap.size + 1, 0, none⟩ (.int .i64 3)).setCell ⟨w.heap.size + 1, 2, none⟩ (.int .u32 (ab : Int))).heap.size := set10_size
  rw [← hS] at hlies
  clear hS
  change bodyPost _ _ _ _ _ (set10 ((V.setCell ⟨w.heap.size + 1, 0, none⟩ (.int .i64 3)).setCell ⟨w.heap.size + 1, 2, none⟩ (.int .u32 (ab : Int))) w.heap.size (.int .i64 3) (.int .u32 (f : Int)) (.int .u32 (ab : Int)) (.slice none 0 0) (.slice none 0 0) (.slice none 0 0) (.int .u64 0) (.int .i64 0) (.int .i64 0) (.slice none 0 0))
  generalize set10 ((V.setCell ⟨w.heap.size + 1, 0, none⟩ (.int .i64 3)).setCell ⟨w.heap.size + 1, 2, none⟩ (.int .u32 (ab : Int))) w.heap.size (.int .i64 3) (.int .u32 (f : Int)) (.int .u32 (ab : Int)) (.slice none 0 0) (.slice none 0 0) (.slice none 0 0) (.int .u64 0) (.int .i64 0) (.int .i64 0) (.slice none 0 0) = WF at hF hG hX hlies hTy ⊢
  obtain ⟨f0, f1, f2, f3, f4, f5, f6, f7, f8, f9⟩ := blk10 hF
  clear y0 y1 y2 y3 y4 y5 y6 y7 y8 y9 z0 z1 z2 z3 z4 z5 z6 z7 z8 z9 p0 p1 p2 p3 p4 p5 p6 p7 p8 p9 q0 q1 q2 q3 q4 q5 q6 q7 q8 q9
  refine bodyPost_ret (by simp [results, Try.results57, go_sem, f0, f1, f2, f3, f4, f5, f6, f7, f8, f9]; try rfl) rfl ?_
  exact ⟨⟨⟨3, f, ab, [], [], [], 0, 0, 0, []⟩, none, 0, none, 0, none, 0, none, 0⟩, rfl, by rw [HAB.out], hX, hlies, hTy, hG⟩
end Go.Proofs.Ytnchgmemajmkjaa
