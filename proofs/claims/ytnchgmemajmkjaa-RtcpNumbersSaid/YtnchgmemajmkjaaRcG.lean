/- Contracts: limelightref6.parse: Remb. -/
import Derived.Test.YtnchgmemajmkjaaRcD
import Derived.Test.YtnchgmemajmkjaaRegF
import Derived.Test.YtnchgmemajmkjaaRcB4
namespace Go.Proofs.Ytnchgmemajmkjaa
open Go.RowKit
set_option linter.unusedVariables false
set_option linter.unusedSimpArgs false
set_option maxRecDepth 20000

theorem and32 (i : Nat) (hi : i ≤ 32) (x : Nat) (hx : x < 4294967296) (m : Int) (hm : m = 2 ^ i - 1) : bits .and .u32 (x : Int) m = ((x % 2 ^ i : Nat) : Int) := by
  subst hm
  have h := bits_mask .u32 32 (by decide) (fun n h0 h1 => by rw [show (2 : Int) ^ 32 = 4294967296 by decide] at h1; rw [IntKind.wrap_u32]; omega) i hi (x : Int) (by omega) (by rw [show (2 : Int) ^ 32 = 4294967296 by decide]; omega)
  rw [h]
  simp
theorem blk_grown {w w' : World} {g : Nat} {t : TypeId} {cs : Array Value} {row : Option Nat} (h : Blk w g t cs) (hg : w.grownBy w' row) (hr : row ≠ some g) : Blk w' g t cs := (hg.block g h.lt fun e => hr e.symm).trans h
def oneW (w : World) (x : Nat) : ClF (keepF w) := .pred (fun v W => ∃ g, v = .slice (some ⟨g, 0, none⟩) 1 1 ∧ R32 W W.heap.size (some ⟨g, 0, none⟩) 1 1 [x]) (fun v a b _ hf _ h => by
  obtain ⟨g, e, hr⟩ := h
  exact ⟨g, e, hr.on hf⟩)
theorem oneW_of {w : World} {x : Nat} {c : ClF (keepF w)} {v : Value} {W : World} (h : c.holds v W) (e : c = oneW w x) : ∃ g, v = .slice (some ⟨g, 0, none⟩) 1 1 ∧ R32 W W.heap.size (some ⟨g, 0, none⟩) 1 1 [x] := by subst e; exact h
theorem drop_take {ws : List Nat} {p : Nat} (h4 : 4 ≤ p) (h : p < ws.length) : (ws.drop 4).take (p - 4) ++ [ws.getD p 0] = (ws.drop 4).take (p + 1 - 4) := by
  obtain ⟨q, rfl⟩ : ∃ q, p = 4 + q := ⟨p - 4, by omega⟩
  rw [show 4 + q - 4 = q by omega, show 4 + q + 1 - 4 = q + 1 by omega]
  have h1 : q < (ws.drop 4).length := by rw [List.length_drop]; omega
  rw [List.take_add_one, List.getElem?_eq_getElem h1]
  simp [List.getD_eq_getElem?_getD, List.getElem?_eq_getElem h]
/-- What stands while Remb's Abouts are read. -/
structure RembAt (w : World) (f R : Nat) (A : Option Addr) (c : Nat) (l : List Nat) (wr : World) : Prop where
  below : Below w.heap.size w wr
  size : w.heap.size + 2 ≤ wr.heap.size
  b0 : Blk wr w.heap.size 33 #[Value.int .i64 0, .int .u32 0, .int .u32 0, .slice none 0 0, .slice none 0 0, .slice none 0 0, .int .u64 0, .int .i64 0, .int .i64 0, .slice none 0 0]
  b1 : Blk wr (w.heap.size + 1) 33 #[.int .i64 5, .int .u32 (f : Int), .int .u32 0, .slice none 0 0, .slice A l.length c, .slice none 0 0, .int .u64 (R : Int), .int .i64 0, .int .i64 0, .slice none 0 0]
  own : Own32 wr (w.heap.size + 2) (.slice A l.length c) l
theorem RembAt.on {w : World} {f R : Nat} {A : Option Addr} {c : Nat} {l : List Nat} {wr W : World} (h : RembAt w f R A c l wr) (hb : Below wr.heap.size wr W) : RembAt w f R A c l W :=
  ⟨h.below.trans (hb.mono h.below.size), Nat.le_trans h.size hb.size, h.b0.below hb h.b0.lt, h.b1.below hb h.b1.lt, World.ownsRow.kept (row := none) h.own ⟨hb.os, hb.tape, hb.output, hb.size, fun k hk _ => hb.block k hk⟩ (by cases hv : (Value.slice A l.length c).ownBlock <;> simp)⟩
theorem RembAt.push {w : World} {f R : Nat} {A A' : Option Addr} {c c' : Nat} {l l' : List Nat} {W W' : World} (h : RembAt w f R A c l W) (ho : Own32 W' (w.heap.size + 2) (.slice A' l'.length c') l') (hg : W.grownBy W' (Value.slice A l.length c).ownBlock) :
    RembAt w f R A' c' l' (W'.setCell ⟨w.heap.size + 1, 4, none⟩ (.slice A' l'.length c')) := by
  have hlow : ∀ k, (Value.slice A l.length c).ownBlock = some k → w.heap.size + 2 ≤ k := fun k hk => (World.ownsRow.lt h.own k hk).1
  have b0 := blk_grown h.b0 hg (fun e => by have := hlow _ e; omega)
  have b1 := blk_grown h.b1 hg (fun e => by have := hlow _ e; omega)
  have hbl := below_grown h.below h.below.size hg (fun k hk => by have := hlow k hk; omega)
  refine ⟨Below.setCell hbl (p := ⟨w.heap.size + 1, 4, none⟩) (by simp) _, ?_, b0.far (p := ⟨w.heap.size + 1, 4, none⟩) (by simp) _, ?_, ?_⟩
  · have := hg.size
    have := h.size
    simp [World.setCell]
    omega
  · have := b1.set_ 4 (.slice A' l'.length c')
    simpa only [List.setIfInBounds_toArray, List.set_cons_succ, List.set_cons_zero] using this
  · have hb := but_setCell W' (w.heap.size + 1) 4 (.slice A' l'.length c')
    exact own_but ho hb.size hb.block (fun e => by have := (World.ownsRow.lt ho _ e).1; omega)
set_option maxHeartbeats 4000000 in
theorem parse_remb (A : Option Addr) (n c : Nat) (ws : List Nat) (w : World) (h : R8 w w.heap.size A n c (wB ws)) (hw : Small ws) (hn : n ≤ 1000000) :
    Calls Try.prog 57 #[.int .i64 206, .int .i64 15, .slice A n c] w (NewRep w (parseR 206 15 ws)) := by
  have hp : parseR 206 15 ws = ⟨5, ws.getD 0 0, 0, [], ws.drop 4, [], opN (ws.getD 3 0 / 262144 % 64) (ws.getD 3 0 % 262144), 0, 0, []⟩ := rfl
  rw [hp]
  clear hp
  have hkn := fun W => ref6_known 206 15 W
  rw [show oursTC 206 15 = true from rfl] at hkn
  have hwl : n = 4 * ws.length := by rw [← h.1, wB_len]; omega
  have h0 := Lib.hid h
  have hb1 : Below w.heap.size w (w.alloc (.cells #[Value.int .i64 0, .int .u32 0, .int .u32 0, .slice none 0 0, .slice none 0 0, .slice none 0 0, .int .u64 0, .int .i64 0, .int .i64 0, .slice none 0 0] 33)) := (Below.refl _ w).alloc (Nat.le_refl _) _
  have hwd := ref6_word A n c ws _ (h.on hb1) hw hn 0 0 rfl (by omega)
  have hf := hw.at 0
  generalize hff : ws.getD 0 0 = f at hwd hf
  have HF0 := Lib.hid hff
  clear hff
  have HWL := Lib.hid hwl
  clear hwl
  go_enter Try.func57, Try.ntmps57
  go_wp2_with fail
  ((with_reducible refine hwd.mono ?_); rintro e w1 ⟨rfl, rfl⟩)
  clear hwd
  go_wp2_with fail
  ((with_reducible refine (hkn _).mono ?_); rintro e w1 ⟨rfl, rfl⟩)
  clear hkn
  go_upto_region 12 with (fail)
  have hbV := hb1.alloc hb1.size (.cells #[Value.int .i64 0, .int .u32 (f : Int), .int .u32 0, .slice none 0 0, .slice none 0 0, .slice none 0 0, .int .u64 0, .int .i64 0, .int .i64 0, .slice none 0 0] 33)
  have hZ0 : Blk ((w.alloc (.cells #[Value.int .i64 0, .int .u32 0, .int .u32 0, .slice none 0 0, .slice none 0 0, .slice none 0 0, .int .u64 0, .int .i64 0, .int .i64 0, .slice none 0 0] 33)).alloc (.cells #[Value.int .i64 0, .int .u32 (f : Int), .int .u32 0, .slice none 0 0, .slice none 0 0, .slice none 0 0, .int .u64 0, .int .i64 0, .int .i64 0, .slice none 0 0] 33)) w.heap.size 33 #[Value.int .i64 0, .int .u32 0, .int .u32 0, .slice none 0 0, .slice none 0 0, .slice none 0 0, .int .u64 0, .int .i64 0, .int .i64 0, .slice none 0 0] := (Blk.new w _ _).alloc _
  have hZ1 : Blk ((w.alloc (.cells #[Value.int .i64 0, .int .u32 0, .int .u32 0, .slice none 0 0, .slice none 0 0, .slice none 0 0, .int .u64 0, .int .i64 0, .int .i64 0, .slice none 0 0] 33)).alloc (.cells #[Value.int .i64 0, .int .u32 (f : Int), .int .u32 0, .slice none 0 0, .slice none 0 0, .slice none 0 0, .int .u64 0, .int .i64 0, .int .i64 0, .slice none 0 0] 33)) (w.heap.size + 1) 33 #[Value.int .i64 0, .int .u32 (f : Int), .int .u32 0, .slice none 0 0, .slice none 0 0, .slice none 0 0, .int .u64 0, .int .i64 0, .int .i64 0, .slice none 0 0] := by
    have h1 := Blk.new (w.alloc (.cells #[Value.int .i64 0, .int .u32 0, .int .u32 0, .slice none 0 0, .slice none 0 0, .slice none 0 0, .int .u64 0, .int .i64 0, .int .i64 0, .slice none 0 0] 33)) 33 #[Value.int .i64 0, .int .u32 (f : Int), .int .u32 0, .slice none 0 0, .slice none 0 0, .slice none 0 0, .int .u64 0, .int .i64 0, .int .i64 0, .slice none 0 0]
    have h2 : (w.alloc (.cells #[Value.int .i64 0, .int .u32 0, .int .u32 0, .slice none 0 0, .slice none 0 0, .slice none 0 0, .int .u64 0, .int .i64 0, .int .i64 0, .slice none 0 0] 33)).heap.size = w.heap.size + 1 := by simp
    rwa [h2] at h1
  have hsV : ((w.alloc (.cells #[Value.int .i64 0, .int .u32 0, .int .u32 0, .slice none 0 0, .slice none 0 0, .slice none 0 0, .int .u64 0, .int .i64 0, .int .i64 0, .slice none 0 0] 33)).alloc (.cells #[Value.int .i64 0, .int .u32 (f : Int), .int .u32 0, .slice none 0 0, .slice none 0 0, .slice none 0 0, .int .u64 0, .int .i64 0, .int .i64 0, .slice none 0 0] 33)).heap.size = w.heap.size + 2 := by simp
  have hRV := h.on hbV
  generalize ((w.alloc (.cells #[Value.int .i64 0, .int .u32 0, .int .u32 0, .slice none 0 0, .slice none 0 0, .slice none 0 0, .int .u64 0, .int .i64 0, .int .i64 0, .slice none 0 0] 33)).alloc (.cells #[Value.int .i64 0, .int .u32 (f : Int), .int .u32 0, .slice none 0 0, .slice none 0 0, .slice none 0 0, .int .u64 0, .int .i64 0, .int .i64 0, .slice none 0 0] 33)) = V at hbV hZ0 hZ1 hsV hRV ⊢
  have HSV := Lib.hid hsV
  have hlt0 : w.heap.size < V.heap.size := by omega
  have hlt1 : w.heap.size + 1 < V.heap.size := by omega
  clear hsV hb1 h
  obtain ⟨p0, p1, p2, p3, p4, p5, p6, p7, p8, p9⟩ := blk10 hZ1
  obtain ⟨q0, q1, q2, q3, q4, q5, q6, q7, q8, q9⟩ := frz10 hZ1
  go_upto_region 4 with (fail)
  have b0 := hZ0.far (p := ⟨w.heap.size + 1, 0, none⟩) (by simp) (.int .i64 5)
  have b1 := hZ1.set_ 0 (.int .i64 5)
  simp only [List.setIfInBounds_toArray, List.set_cons_succ, List.set_cons_zero] at b1
  have hbV := Below.setCell hbV (p := ⟨w.heap.size + 1, 0, none⟩) (by simp) (.int .i64 5)
  have hs1 : (V.setCell ⟨w.heap.size + 1, 0, none⟩ (.int .i64 5)).heap.size = w.heap.size + 2 := by rw [← HSV.out]; simp [World.setCell]
  clear p0 p1 p2 p3 p4 p5 p6 p7 p8 p9 q0 q1 q2 q3 q4 q5 q6 q7 q8 q9 hZ0 hZ1 HSV hlt0 hlt1 hRV
  generalize V.setCell ⟨w.heap.size + 1, 0, none⟩ (.int .i64 5) = V at b0 b1 hbV hs1 ⊢
  have HSV := Lib.hid hs1
  have hlt0 : w.heap.size < V.heap.size := by omega
  have hlt1 : w.heap.size + 1 < V.heap.size := by omega
  clear hs1
  have hRV := h0.out.on hbV
  have hwd := ref6_word A n c ws V hRV hw hn 3 3 rfl (by omega)
  have hx := hw.at 3
  generalize hx3 : ws.getD 3 0 = x at hwd hx
  have HX3 := Lib.hid hx3
  clear hx3
  have hE1 := and32 6 (by omega) (x / 262144) (by omega) 63 rfl
  have hM1 := and32 18 (by omega) x hx 262143 rfl
  have hE63 : x / 262144 % 2 ^ 6 ≤ 63 := by omega
  have hM63 : x % 2 ^ 18 < 262144 := by omega
  have hro : opR ((x / 262144 % 2 ^ 6 : Nat) : Int) (x % 2 ^ 18) 18 = opN (x / 262144 % 64) (x % 262144) := by
    unfold opR
    rw [if_pos ⟨by omega, by omega, by simpa using hM63⟩]
    rfl
  have hop : ∀ W, Calls Try.prog 22 #[.int .i64 ((x / 262144 % 2 ^ 6 : Nat) : Int), .int .u32 ((x % 2 ^ 18 : Nat) : Int), .int .i64 18] W (AnsS (.int .u64 (opR ((x / 262144 % 2 ^ 6 : Nat) : Int) (x % 2 ^ 18) 18 : Int)) W) := fun W => ref_open_s _ _ 18 W (by omega) (by omega) (by omega)
  rw [hro] at hop
  have hR64 : opN (x / 262144 % 64) (x % 262144) < 18446744073709551616 := by unfold opN; omega
  clear hro
  generalize hRR : opN (x / 262144 % 64) (x % 262144) = R at hop hR64
  have HRR := Lib.hid hRR
  generalize x / 262144 % 2 ^ 6 = E at hE1 hop hE63
  generalize x % 2 ^ 18 = M at hM1 hop hM63
  have hE2 : bits .and .u32 ((x : Int) / 262144) 63 = (E : Int) := by rw [← hE1]; simp
  clear hE1 hRR
  obtain ⟨p0, p1, p2, p3, p4, p5, p6, p7, p8, p9⟩ := blk10 b1
  obtain ⟨q0, q1, q2, q3, q4, q5, q6, q7, q8, q9⟩ := frz10 b1
  have HE2 := Lib.hid hE2
  have HM1 := Lib.hid hM1
  clear hE2 hM1
  go_wp2_with fail
  ((with_reducible refine hwd.mono ?_); rintro e w1 ⟨rfl, rfl⟩)
  clear hwd
  go_wp2_with fail
  rw [HE2.out, HM1.out, wrap_i64 (n := (E : Int)) (by unfold I64; omega)]
  ((with_reducible refine (hop _).mono ?_); rintro e w1 ⟨rfl, rfl⟩)
  clear hop HE2 HM1
  go_upto_region 6 with (fail)
  have b0 := b0.far (p := ⟨w.heap.size + 1, 6, none⟩) (by simp) (.int .u64 (R : Int))
  have b1 := b1.set_ 6 (.int .u64 (R : Int))
  simp only [List.setIfInBounds_toArray, List.set_cons_succ, List.set_cons_zero] at b1
  have hbV := Below.setCell hbV (p := ⟨w.heap.size + 1, 6, none⟩) (by simp) (.int .u64 (R : Int))
  have hs1 : (V.setCell ⟨w.heap.size + 1, 6, none⟩ (.int .u64 (R : Int))).heap.size = w.heap.size + 2 := by rw [← HSV.out]; simp [World.setCell]
  clear p0 p1 p2 p3 p4 p5 p6 p7 p8 p9 q0 q1 q2 q3 q4 q5 q6 q7 q8 q9 HSV hlt0 hlt1 hRV
  generalize V.setCell ⟨w.heap.size + 1, 6, none⟩ (.int .u64 (R : Int)) = V at b0 b1 hbV hs1 ⊢
  have hP : RembAt w f R none 0 [] V := ⟨hbV, by omega, b0, b1, World.ownsRow_nil _ _ _ _⟩
  clear b0 b1 hbV hs1
  have hn4 : (n : Int) / 4 = (ws.length : Int) := by have := HWL.out; omega
  have HN4 := Lib.hid hn4
  clear hn4
  go_wp2_with fail
  rw [HN4.out]
  go_loopw [13] (fun iv wr => ∃ (p : Nat) (Ar : Option Addr) (cr : Nat), 4 ≤ p ∧ (p ≤ ws.length ∨ p = 4) ∧ iv = .int .i64 (p : Int) ∧ RembAt w f R Ar cr ((ws.drop 4).take (p - 4)) wr) (fun iv _ => ws.length - (intOf iv).toNat)
  case atStart => exact ⟨4, none, 0, by omega, .inr rfl, rfl, by simpa using hP⟩
  case round =>
    obtain ⟨p, Ar, cr, h4, hpl, rfl, hP⟩ := hrel
    by_cases hlt : p < ws.length
    · have g3 : decide ((p : Int) < (ws.length : Int)) = true := by simp; omega
      have hpn : p ≤ 1000000 := by have := HWL.out; omega
      have hRr := h0.out.on hP.below
      obtain ⟨y0, y1, y2, y3, y4, y5, y6, y7, y8, y9⟩ := blk10 hP.b1
      have htk := Lib.hid (drop_take h4 hlt)
      have hxw := hw.at p
      have hwd := fun W (hb : Below wr.heap.size wr W) => ref6_word A n c ws W (hRr.on hb) hw hn p (p : Int) rfl hpn
      have hll : ((ws.drop 4).take (p - 4)).length ≤ 999996 := by rw [List.length_take]; omega
      have hsm : ∀ x ∈ (ws.drop 4).take (p - 4), x < 4294967296 := fun x hx => hw x (List.mem_of_mem_drop (List.mem_of_mem_take hx))
      have HSM := Lib.hid hsm
      clear hsm hpl
      generalize ws.getD p 0 = xp at hwd htk hxw
      generalize (ws.drop 4).take (p - 4) = L at hP htk hll HSM y0 y1 y2 y3 y4 y5 y6 y7 y8 y9
      have hg1 : w.heap.size + 1 < wr.heap.size := hP.b1.lt
      clear y0 y1 y2 y3 y5 y6 y7 y8 y9
      go_upto_region 9 with (fail)
      refine wp_region_ft (F := keepF wr) 6 [.val (.pointer (some ⟨w.heap.size + 1, 4, none⟩)), .val (.slice Ar L.length cr), .val (.slice A n c), .val (.int .i64 (p : Int)), .val (.int .u32 (xp : Int)), oneW wr xp]
        (by kernel_rfl) (by kernel_rfl) (by kernel_rfl) (by decide) (by kernel_rfl) (Below.refl _ _) (AllOblF.upto ⟨?_, ?_, ?_, ?_, ?_, ?_, trivial⟩) ?_
      · refine OblF.pure rfl (.pointer (some ⟨w.heap.size + 1, 4, none⟩)) (by kernel_rfl) rfl fun ev W hI hf hx => ?_
        have e8 : ev (.tmp 8) = .pointer (some ⟨w.heap.size + 1, 0, none⟩) := holds_valF (hx (.tmp 8)) (by kernel_rfl)
        simp [execOp, e8, go_sem]
      · refine OblF.pure rfl (.slice Ar L.length cr) (by kernel_rfl) rfl fun ev W hI hf hx => ?_
        have e36 : ev (.tmp 36) = .pointer (some ⟨w.heap.size + 1, 4, none⟩) := holds_valF (hx (.tmp 36)) (by kernel_rfl)
        have d4 := (Below.cell (p := ⟨w.heap.size + 1, 4, none⟩) hI hg1).trans y4
        simp [execOp, e36, go_sem, d4]
      · exact OblF.move rfl _ (Or.inl rfl) (by kernel_rfl) rfl
      · exact OblF.move rfl _ (Or.inl rfl) (by kernel_rfl) rfl
      · refine OblF.call rfl 79 #[.tmp 38, .tmp 39] _ rfl Try.f79 Try.func79 (by kernel_rfl) (by kernel_rfl) rfl fun ev W hI hf hx => ?_
        have e38 : ev (.tmp 38) = .slice A n c := holds_valF (hx (.tmp 38)) (by kernel_rfl)
        have e39 : ev (.tmp 39) = .int .i64 (p : Int) := holds_valF (hx (.tmp 39)) (by kernel_rfl)
        simp only [List.map_toArray, List.map_cons, List.map_nil, e38, e39]
        refine (hwd W hI).mono ?_
        rintro e W' ⟨rfl, rfl⟩
        exact ⟨_, rfl, hI, Below.refl _ _, rfl⟩
      · refine OblF.step rfl fun ev W hI hf hx => ?_
        have e40 : ev (.tmp 40) = .int .u32 (xp : Int) := holds_valF (hx (.tmp 40)) (by kernel_rfl)
        refine ⟨.slice (some ⟨W.heap.size, 0, none⟩) 1 1, W.alloc (.cells #[.int .u32 (xp : Int)] 27), ?_, ?_, ?_, ?_⟩
        · simp [execOp, e40, go_sem]
        · exact Below.trans hI (((Below.refl W.heap.size W).alloc (Nat.le_refl _) _).mono (Below.size hI))
        · exact (Below.refl W.heap.size W).alloc (Nat.le_refl _) _
        · exact ⟨W.heap.size, rfl, lit_r32 [xp] _ 1 _ W rfl rfl (by simp [wv]) (by intro z hz; simp at hz; omega)⟩
      intro aa W hI hf hsz hdf hold hv
      have v37 : aa.tmps.getD 37 undef = .slice Ar L.length cr := holds_valF (hv 1 (by decide)) (by kernel_rfl)
      obtain ⟨gw, v41, r9⟩ := oneW_of (x := xp) (hv 5 (by decide)) (by kernel_rfl)
      have v41' : aa.tmps.getD 41 undef = .slice (some ⟨gw, 0, none⟩) 1 1 := v41
      have ha := act_puts [36, 37, 38, 39, 40, 41, 42, 43] (by kernel_rfl) hsz hdf hold
      simp only [putAll, v37, v41'] at ha
      generalize aa.tmps.getD 36 undef = x36 at ha
      generalize aa.tmps.getD 38 undef = x38 at ha
      generalize aa.tmps.getD 39 undef = x39 at ha
      generalize aa.tmps.getD 40 undef = x40 at ha
      generalize aa.tmps.getD 42 undef = x42 at ha
      generalize aa.tmps.getD 43 undef = x43 at ha
      clear hv hold hsz hdf
      subst ha
      clear v37 v41'
      simp only [List.toList_toArray, List.drop_succ_cons, List.drop_zero, Act.put, List.setIfInBounds_toArray, List.set_cons_succ, List.set_cons_zero]
      have hPW := hP.on hI
      have hB2 := hPW.size
      have ho5 := hPW.own
      have hbb : L.length + 1 ≤ 1000000 := by omega
      have HBB := Lib.hid hbb
      have hsm2 : ∀ x ∈ L ++ [xp], x < 4294967296 := fun x hx => by
        rcases List.mem_append.1 hx with hx | hx
        · exact HSM.out x hx
        · rw [List.mem_singleton.1 hx]; exact hxw
      have HSM2 := Lib.hid hsm2
      have hpl : p + 1 ≤ ws.length := by omega
      generalize hL2 : (ws.drop 4).take (p + 1 - 4) = L2 at htk
      have HL2 := Lib.hid hL2
      clear hL2
      rw [htk.out] at HSM2
      have hlow : ∀ k, (Value.slice Ar L.length cr).ownBlock = some k → w.heap.size + 2 ≤ k := fun k hk => (World.ownsRow.lt ho5 k hk).1
      have HLOW := Lib.hid hlow
      clear hbb hsm2 hI hf hP y4 hll HSM hwd hRr hlow
      go_wp2_with (at_builtin; go_loud ((with_reducible refine wpList_append32 rfl (.tmp 37) (.tmp 41) rfl rfl (w.heap.size + 2) _ _ (by with_unfolding_all rfl) ho5 W.heap.size _ 1 1 _ (by with_unfolding_all rfl) r9 HBB.out hB2 ?_); rintro v7 W7 ⟨o7, g7⟩; rw [htk.out] at o7; obtain ⟨A7, c7, rfl, r7⟩ := o7.r32 HSM2.out; have b17 := blk_grown hPW.b1 g7 (fun e => by have := HLOW.out _ e; omega); have k4 := b17.cell 4; have f4 := b17.frozen 4; simp only [List.getElem?_toArray, List.getElem?_cons_succ, List.getElem?_cons_zero] at k4))
      have hP7 := hPW.push o7 g7
      clear hPW o7 g7 r7 b17 k4 f4 ho5 r9
      go_roundw
      case rel => exact ⟨p + 1, A7, c7, by omega, .inl hpl, by go_num, by rw [HL2.out]; exact hP7⟩
      case measure => simp [intOf]; omega
    · have g3 : ¬ (p : Int) < (ws.length : Int) := by omega
      rw [List.take_of_length_le (by rw [List.length_drop]; omega)] at hP
      have hsm : ∀ x ∈ ws.drop 4, x < 4294967296 := fun x hx => hw x (List.mem_of_mem_drop hx)
      have hdl : (ws.drop 4).length ≤ 1000000 := by have := HWL.out; rw [List.length_drop]; omega
      generalize hDD : ws.drop 4 = DD at hP hsm hdl
      have HDD := Lib.hid hDD
      clear hDD
      obtain ⟨p0, p1, p2, p3, p4, p5, p6, p7, p8, p9⟩ := blk10 hP.b1
      obtain ⟨y0, y1, y2, y3, y4, y5, y6, y7, y8, y9⟩ := blk10 hP.b0
      obtain ⟨z0, z1, z2, z3, z4, z5, z6, z7, z8, z9⟩ := frz10 hP.b0
      go_wp2_with fail
      have hbW := hP.below
      have hZ0 := hP.b0
      have hAr := own_block hP.own
      obtain ⟨A6, c6, e6, r6⟩ := hP.own.r32 hsm
      injection e6 with e6 _ e7
      subst e6
      subst e7
      have hXW : IsR wr wr.heap.size ⟨⟨5, f, 0, [], DD, [], R, 0, 0, []⟩, none, 0, Ar, cr, none, 0, none, 0⟩ := ⟨RT.nil _ _ _ _, r6, RN.nil _ _ _ _, R8.nil _ _ _ _, Rep.In.of (i64_small (by omega)) hf (by omega) hR64 (i64_small (by omega)) (i64_small (by omega)) (by simp) (by omega) (by simp) (by simp)⟩
      have hoff : Rv.Off ⟨⟨5, f, 0, [], DD, [], R, 0, 0, []⟩, none, 0, Ar, cr, none, 0, none, 0⟩ w.heap.size := by
        intro ad had
        rcases had with had | had | had | had
        · cases had
        · have := hAr ad had; omega
        · cases had
        · cases had
      have hty : Rv.Typed ⟨⟨5, f, 0, [], DD, [], R, 0, 0, []⟩, none, 0, Ar, cr, none, 0, none, 0⟩ wr := by
        intro ad had
        rcases had with had | had | had | had
        · cases had
        · exact own_typed hP.own (by decide) ad had
        · cases had
        · cases had
      have hlies : Rv.Lies ⟨⟨5, f, 0, [], DD, [], R, 0, 0, []⟩, none, 0, Ar, cr, none, 0, none, 0⟩ w.heap.size wr.heap.size := by
        intro ad had
        rcases had with had | had | had | had
        · cases had
        · have := hAr ad had; omega
        · cases had
        · cases had
      have hF := set10_blk (W := wr) (v0 := .int .i64 5) (v1 := .int .u32 (f : Int)) (v2 := .int .u32 0) (v3 := .slice none 0 0) (v4 := .slice Ar DD.length cr) (v5 := .slice none 0 0) (v6 := .int .u64 (R : Int)) (v7 := .int .i64 0) (v8 := .int .i64 0) (v9 := .slice none 0 0) hZ0
      have hG : Below w.heap.size w (set10 (wr) w.heap.size (.int .i64 5) (.int .u32 (f : Int)) (.int .u32 0) (.slice none 0 0) (.slice Ar DD.length cr) (.slice none 0 0) (.int .u64 (R : Int)) (.int .i64 0) (.int .i64 0) (.slice none 0 0)) := hbW.trans (set10_below (Nat.le_refl _))
      have hX := hXW.but (but_set10 (wr) w.heap.size (.int .i64 5) (.int .u32 (f : Int)) (.int .u32 0) (.slice none 0 0) (.slice Ar DD.length cr) (.slice none 0 0) (.int .u64 (R : Int)) (.int .i64 0) (.int .i64 0) (.slice none 0 0)) hoff
      have hTy := hty.same (w' := set10 (wr) w.heap.size (.int .i64 5) (.int .u32 (f : Int)) (.int .u32 0) (.slice none 0 0) (.slice Ar DD.length cr) (.slice none 0 0) (.int .u64 (R : Int)) (.int .i64 0) (.int .i64 0) (.slice none 0 0)) hoff (fun k hk => set10_far hk)
      have hS : (set10 (wr) w.heap.size (.int .i64 5) (.int .u32 (f : Int)) (.int .u32 0) (.slice none 0 0) (.slice Ar DD.length cr) (.slice none 0 0) (.int .u64 (R : Int)) (.int .i64 0) (.int .i64 0) (.slice none 0 0)).heap.size = (wr).heap.size := set10_size
      rw [← hS] at hlies
      clear hS
      change bodyPost _ _ _ _ _ (set10 (wr) w.heap.size (.int .i64 5) (.int .u32 (f : Int)) (.int .u32 0) (.slice none 0 0) (.slice Ar DD.length cr) (.slice none 0 0) (.int .u64 (R : Int)) (.int .i64 0) (.int .i64 0) (.slice none 0 0))
      generalize set10 (wr) w.heap.size (.int .i64 5) (.int .u32 (f : Int)) (.int .u32 0) (.slice none 0 0) (.slice Ar DD.length cr) (.slice none 0 0) (.int .u64 (R : Int)) (.int .i64 0) (.int .i64 0) (.slice none 0 0) = WF at hF hG hX hlies hTy ⊢
      obtain ⟨f0, f1, f2, f3, f4, f5, f6, f7, f8, f9⟩ := blk10 hF
      clear y0 y1 y2 y3 y4 y5 y6 y7 y8 y9 z0 z1 z2 z3 z4 z5 z6 z7 z8 z9 p0 p1 p2 p3 p4 p5 p6 p7 p8 p9
      refine bodyPost_ret (by simp [results, Try.results57, go_sem, f0, f1, f2, f3, f4, f5, f6, f7, f8, f9]; try rfl) rfl ?_
      exact ⟨⟨⟨5, f, 0, [], DD, [], R, 0, 0, []⟩, none, 0, Ar, cr, none, 0, none, 0⟩, rfl, by rw [HDD.out, ← HRR.out, ← HX3.out]; rfl, hX, hlies, hTy, hG⟩
end Go.Proofs.Ytnchgmemajmkjaa
