/- Contracts: limelightref6.parse: Tmmbr, Tmmbn. -/
import Derived.Test.YtnchgmemajmkjaaRcG
namespace Go.Proofs.Ytnchgmemajmkjaa
open Go.RowKit
set_option linter.unusedVariables false
set_option linter.unusedSimpArgs false
set_option maxRecDepth 20000

def OwnT (w : World) (base : Nat) (v : Value) (l : List Tup) : Prop := w.ownsRow base 57 3 v l.length (cellsT l)
theorem tuple_info : (Try.prog.info? 57).map (fun i => (i.zero, i.size, i.bytes)) = some (some (.agg #[.int .u32 0, .int .u64 0, .int .i64 0]), 3, 24) := by kernel_rfl
theorem OwnT.rt {w : World} {base : Nat} {v : Value} {l : List Tup} (h : OwnT w base v l) (hl : ∀ t ∈ l, t.In) : ∃ A c, v = .slice A l.length c ∧ RT w w.heap.size A l.length c l := by
  obtain ⟨A, c, e, hr, _⟩ := own_rx (cellsT_len l) h
  exact ⟨A, c, e, rfl, hl, hr⟩
theorem cellsT_one (l : List Tup) : ∀ u ∈ cellsT l, u.oneCell' = true := by
  intro u hu
  obtain ⟨t, _, h⟩ := List.mem_flatMap.1 hu
  simp only [Tup.cells, List.mem_cons, List.not_mem_nil, or_false] at h
  rcases h with rfl | rfl | rfl <;> rfl
theorem cellsT_append (l r : List Tup) : cellsT (l ++ r) = cellsT l ++ cellsT r := by simp [cellsT]
/-- append of tuples onto a row of tuples. -/
theorem wpList_appendT {w : World} {ops : Array Oper} {rest : List Oper} {o : Oper} {a : Act} {Q : Exit → Act → World → Prop} (hgd : o.guard = none) (s x : Operand)
    (ho : o.op = .call { callee := .builtin .append, args := #[s, x], argTypes := #[28, 28] }) (hty : o.type = 28)
    (base : Nat) (v : Value) (l : List Tup) (hs : a.eval s = v) (hown : OwnT w base v l)
    (B : Nat) (A : Option Addr) (m c : Nat) (r : List Tup) (hx : a.eval x = .slice A m c) (hr : RT w B A m c r)
    (hb : l.length + m ≤ 1000000) (hbase : base ≤ w.heap.size)
    (h : ∀ v' w', OwnT w' base v' (l ++ r) ∧ w.grownBy w' v.ownBlock → wpList Try.prog ops Q rest (a.put o.dst v') w') : wpList Try.prog ops Q (o :: rest) a w :=
  wpList_appendX hgd s x 28 28 57 ho hty (.agg #[.int .u32 0, .int .u64 0, .int .i64 0]) 3 24 Try.underlying28 tuple_info rfl (by omega) base v l.length (cellsT l) hs hown B A m c (cellsT r) hx hr.2.2 (cellsT_one r) (by simp only [maxLen]; omega) (by omega) hbase
    fun v' w' ha => h v' w' ⟨by unfold OwnT; rw [List.length_append, hr.1, cellsT_append]; exact ha.1, ha.2.1⟩
/-- A block of one tuple, as it is laid for 'append(l, t)'. -/
theorem lit_rt (t : Tup) (ht : t.In) (W : World) (cs : Array Value) (hc : cs = t.cells.toArray) : RT (W.alloc (.cells cs 57)) (W.alloc (.cells cs 57)).heap.size (some ⟨W.heap.size, 0, none⟩) 1 1 [t] := by
  subst hc
  have hB : Blk (W.alloc (.cells t.cells.toArray 57)) W.heap.size 57 t.cells.toArray := Blk.new _ _ _
  refine ⟨rfl, fun x hx => by rw [List.mem_singleton.1 hx]; exact ht, by simp [cellsT, Tup.cells], Nat.le_refl _, fun _ => ⟨W.heap.size, 0, rfl, by simp, fun j v hj => ?_⟩⟩
  rw [Nat.zero_add, hB.cell j]
  simpa [cellsT] using hj
def oneT (w : World) (t : Tup) : ClF (keepF w) := .pred (fun v W => ∃ g, v = .slice (some ⟨g, 0, none⟩) 1 1 ∧ RT W W.heap.size (some ⟨g, 0, none⟩) 1 1 [t]) (fun v a b _ hf _ h => by
  obtain ⟨g, e, hr⟩ := h
  exact ⟨g, e, hr.on hf⟩)
theorem oneT_of {w : World} {t : Tup} {c : ClF (keepF w)} {v : Value} {W : World} (h : c.holds v W) (e : c = oneT w t) : ∃ g, v = .slice (some ⟨g, 0, none⟩) 1 1 ∧ RT W W.heap.size (some ⟨g, 0, none⟩) 1 1 [t] := by subst e; exact h
def tupsR (ws : List Nat) : List Tup := (pairs (ws.drop 2)).map tupR
theorem tupsR_len (ws : List Nat) : (tupsR ws).length = (ws.length - 2) / 2 := by simp [tupsR, pairs_len]
theorem tupsR_take {ws : List Nat} {q p : Nat} (hp : p = 2 * q + 2) (h : p + 1 < ws.length) : (tupsR ws).take q ++ [tupR (ws.getD p 0, ws.getD (p + 1) 0)] = (tupsR ws).take (q + 1) := by
  subst hp
  have h1 : q < (tupsR ws).length := by rw [tupsR_len]; omega
  have h2 : q < (pairs (ws.drop 2)).length := by simpa [tupsR] using h1
  rw [List.take_add_one, List.getElem?_eq_getElem h1]
  have h3 : (tupsR ws)[q] = tupR (ws.getD (2 * q + 2) 0, ws.getD (2 * q + 2 + 1) 0) := by
    simp only [tupsR, List.getElem_map, pairs_at _ _ h2]
    rw [show ∀ i, (ws.drop 2).getD i 0 = ws.getD (i + 2) 0 from fun i => by simp [List.getD_eq_getElem?_getD, Nat.add_comm]]
    rw [show ∀ i, (ws.drop 2).getD i 0 = ws.getD (i + 2) 0 from fun i => by simp [List.getD_eq_getElem?_getD, Nat.add_comm]]
    try rw [show 2 * q + 1 + 2 = 2 * q + 2 + 1 by omega]
  rw [h3]
  rfl
theorem tupR_in {a b : Nat} (ha : a < 4294967296) (hb : b < 4294967296) : (tupR (a, b)).In := ⟨ha, by simp only [tupR]; unfold opN; omega, by simp only [tupR]; unfold I64; omega⟩
theorem tupsR_in {ws : List Nat} (hw : Small ws) : ∀ t ∈ tupsR ws, t.In := by
  intro t ht
  obtain ⟨p, hp, rfl⟩ := List.mem_map.1 ht
  obtain ⟨q, hq, rfl⟩ := List.getElem_of_mem hp
  rw [pairs_at _ _ hq]
  refine tupR_in ?_ ?_
  · have := hw.at (2 * q + 2)
    rw [show ∀ i, (ws.drop 2).getD i 0 = ws.getD (i + 2) 0 from fun i => by simp [List.getD_eq_getElem?_getD, Nat.add_comm]]
    exact this
  · have := hw.at (2 * q + 1 + 2)
    rw [show ∀ i, (ws.drop 2).getD i 0 = ws.getD (i + 2) 0 from fun i => by simp [List.getD_eq_getElem?_getD, Nat.add_comm]]
    exact this
/-- What stands while tuples are read. -/
structure TmmAt (w : World) (K : Int) (f : Nat) (A : Option Addr) (c : Nat) (l : List Tup) (wr : World) : Prop where
  below : Below w.heap.size w wr
  size : w.heap.size + 2 ≤ wr.heap.size
  b0 : Blk wr w.heap.size 33 #[Value.int .i64 0, .int .u32 0, .int .u32 0, .slice none 0 0, .slice none 0 0, .slice none 0 0, .int .u64 0, .int .i64 0, .int .i64 0, .slice none 0 0]
  b1 : Blk wr (w.heap.size + 1) 33 #[.int .i64 K, .int .u32 (f : Int), .int .u32 0, .slice A l.length c, .slice none 0 0, .slice none 0 0, .int .u64 0, .int .i64 0, .int .i64 0, .slice none 0 0]
  own : OwnT wr (w.heap.size + 2) (.slice A l.length c) l
theorem TmmAt.on {w : World} {K : Int} {f : Nat} {A : Option Addr} {c : Nat} {l : List Tup} {wr W : World} (h : TmmAt w K f A c l wr) (hb : Below wr.heap.size wr W) : TmmAt w K f A c l W :=
  ⟨h.below.trans (hb.mono h.below.size), Nat.le_trans h.size hb.size, h.b0.below hb h.b0.lt, h.b1.below hb h.b1.lt, World.ownsRow.kept (row := none) h.own ⟨hb.os, hb.tape, hb.output, hb.size, fun k hk _ => hb.block k hk⟩ (by cases hv : (Value.slice A l.length c).ownBlock <;> simp)⟩
theorem TmmAt.push {w : World} {K : Int} {f : Nat} {A A' : Option Addr} {c c' : Nat} {l l' : List Tup} {W W' : World} (h : TmmAt w K f A c l W) (ho : OwnT W' (w.heap.size + 2) (.slice A' l'.length c') l') (hg : W.grownBy W' (Value.slice A l.length c).ownBlock) :
    TmmAt w K f A' c' l' (W'.setCell ⟨w.heap.size + 1, 3, none⟩ (.slice A' l'.length c')) := by
  have hlow : ∀ k, (Value.slice A l.length c).ownBlock = some k → w.heap.size + 2 ≤ k := fun k hk => (World.ownsRow.lt h.own k hk).1
  have b0 := blk_grown h.b0 hg (fun e => by have := hlow _ e; omega)
  have b1 := blk_grown h.b1 hg (fun e => by have := hlow _ e; omega)
  have hbl := below_grown h.below h.below.size hg (fun k hk => by have := hlow k hk; omega)
  refine ⟨Below.setCell hbl (p := ⟨w.heap.size + 1, 3, none⟩) (by simp) _, ?_, b0.far (p := ⟨w.heap.size + 1, 3, none⟩) (by simp) _, ?_, ?_⟩
  · have := hg.size
    have := h.size
    simp [World.setCell]
    omega
  · have := b1.set_ 3 (.slice A' l'.length c')
    simpa only [List.setIfInBounds_toArray, List.set_cons_succ, List.set_cons_zero] using this
  · have hb := but_setCell W' (w.heap.size + 1) 3 (.slice A' l'.length c')
    exact own_but ho hb.size hb.block (fun e => by have := (World.ownsRow.lt ho _ e).1; omega)
set_option maxHeartbeats 4000000 in
theorem parse_tmm1 (A : Option Addr) (n c : Nat) (ws : List Nat) (w : World) (h : R8 w w.heap.size A n c (wB ws)) (hw : Small ws) (hn : n ≤ 1000000) :
    Calls Try.prog 57 #[.int .i64 205, .int .i64 3, .slice A n c] w (NewRep w (parseR 205 3 ws)) := by
  have hp : parseR 205 3 ws = ⟨1, ws.getD 0 0, 0, tupsR ws, [], [], 0, 0, 0, []⟩ := rfl
  rw [hp]
  clear hp
  have hkn := fun W => ref6_known 205 3 W
  rw [show oursTC 205 3 = true from rfl] at hkn
  have hwl : n = 4 * ws.length := by rw [← h.1, wB_len]; omega
  have h0 := Lib.hid h
  have hb1 : Below w.heap.size w (w.alloc (.cells #[Value.int .i64 0, .int .u32 0, .int .u32 0, .slice none 0 0, .slice none 0 0, .slice none 0 0, .int .u64 0, .int .i64 0, .int .i64 0, .slice none 0 0] 33)) := (Below.refl _ w).alloc (Nat.le_refl _) _
  have hwd := ref6_word A n c ws _ (h.on hb1) hw hn 0 0 rfl (by omega)
  have hf := hw.at 0
  generalize hff : ws.getD 0 0 = f at hwd hf
  have HF0 := Lib.hid hff
  clear hff
  have HWL := Lib.hid hwl
  clear hwl
  go_enter Try.func57, Try.ntmps57
  go_wp2_with fail
  ((with_reducible refine hwd.mono ?_); rintro e w1 ⟨rfl, rfl⟩)
  clear hwd
  go_wp2_with fail
  ((with_reducible refine (hkn _).mono ?_); rintro e w1 ⟨rfl, rfl⟩)
  clear hkn
  go_upto_region 13 with (fail)
  have hbV := hb1.alloc hb1.size (.cells #[Value.int .i64 0, .int .u32 (f : Int), .int .u32 0, .slice none 0 0, .slice none 0 0, .slice none 0 0, .int .u64 0, .int .i64 0, .int .i64 0, .slice none 0 0] 33)
  have hZ0 : Blk ((w.alloc (.cells #[Value.int .i64 0, .int .u32 0, .int .u32 0, .slice none 0 0, .slice none 0 0, .slice none 0 0, .int .u64 0, .int .i64 0, .int .i64 0, .slice none 0 0] 33)).alloc (.cells #[Value.int .i64 0, .int .u32 (f : Int), .int .u32 0, .slice none 0 0, .slice none 0 0, .slice none 0 0, .int .u64 0, .int .i64 0, .int .i64 0, .slice none 0 0] 33)) w.heap.size 33 #[Value.int .i64 0, .int .u32 0, .int .u32 0, .slice none 0 0, .slice none 0 0, .slice none 0 0, .int .u64 0, .int .i64 0, .int .i64 0, .slice none 0 0] := (Blk.new w _ _).alloc _
  have hZ1 : Blk ((w.alloc (.cells #[Value.int .i64 0, .int .u32 0, .int .u32 0, .slice none 0 0, .slice none 0 0, .slice none 0 0, .int .u64 0, .int .i64 0, .int .i64 0, .slice none 0 0] 33)).alloc (.cells #[Value.int .i64 0, .int .u32 (f : Int), .int .u32 0, .slice none 0 0, .slice none 0 0, .slice none 0 0, .int .u64 0, .int .i64 0, .int .i64 0, .slice none 0 0] 33)) (w.heap.size + 1) 33 #[Value.int .i64 0, .int .u32 (f : Int), .int .u32 0, .slice none 0 0, .slice none 0 0, .slice none 0 0, .int .u64 0, .int .i64 0, .int .i64 0, .slice none 0 0] := by
    have h1 := Blk.new (w.alloc (.cells #[Value.int .i64 0, .int .u32 0, .int .u32 0, .slice none 0 0, .slice none 0 0, .slice none 0 0, .int .u64 0, .int .i64 0, .int .i64 0, .slice none 0 0] 33)) 33 #[Value.int .i64 0, .int .u32 (f : Int), .int .u32 0, .slice none 0 0, .slice none 0 0, .slice none 0 0, .int .u64 0, .int .i64 0, .int .i64 0, .slice none 0 0]
    have h2 : (w.alloc (.cells #[Value.int .i64 0, .int .u32 0, .int .u32 0, .slice none 0 0, .slice none 0 0, .slice none 0 0, .int .u64 0, .int .i64 0, .int .i64 0, .slice none 0 0] 33)).heap.size = w.heap.size + 1 := by simp
    rwa [h2] at h1
  have hsV : ((w.alloc (.cells #[Value.int .i64 0, .int .u32 0, .int .u32 0, .slice none 0 0, .slice none 0 0, .slice none 0 0, .int .u64 0, .int .i64 0, .int .i64 0, .slice none 0 0] 33)).alloc (.cells #[Value.int .i64 0, .int .u32 (f : Int), .int .u32 0, .slice none 0 0, .slice none 0 0, .slice none 0 0, .int .u64 0, .int .i64 0, .int .i64 0, .slice none 0 0] 33)).heap.size = w.heap.size + 2 := by simp
  have hRV := h.on hbV
  generalize ((w.alloc (.cells #[Value.int .i64 0, .int .u32 0, .int .u32 0, .slice none 0 0, .slice none 0 0, .slice none 0 0, .int .u64 0, .int .i64 0, .int .i64 0, .slice none 0 0] 33)).alloc (.cells #[Value.int .i64 0, .int .u32 (f : Int), .int .u32 0, .slice none 0 0, .slice none 0 0, .slice none 0 0, .int .u64 0, .int .i64 0, .int .i64 0, .slice none 0 0] 33)) = V at hbV hZ0 hZ1 hsV hRV ⊢
  have HSV := Lib.hid hsV
  have hlt0 : w.heap.size < V.heap.size := by omega
  have hlt1 : w.heap.size + 1 < V.heap.size := by omega
  clear hsV hb1 h
  obtain ⟨p0, p1, p2, p3, p4, p5, p6, p7, p8, p9⟩ := blk10 hZ1
  obtain ⟨q0, q1, q2, q3, q4, q5, q6, q7, q8, q9⟩ := frz10 hZ1
  go_upto_region 14 with (fail)
  have b0 := hZ0.far (p := ⟨w.heap.size + 1, 0, none⟩) (by simp) (.int .i64 1)
  have b1 := hZ1.set_ 0 (.int .i64 1)
  simp only [List.setIfInBounds_toArray, List.set_cons_succ, List.set_cons_zero] at b1
  have hbV := Below.setCell hbV (p := ⟨w.heap.size + 1, 0, none⟩) (by simp) (.int .i64 1)
  have hs1 : (V.setCell ⟨w.heap.size + 1, 0, none⟩ (.int .i64 1)).heap.size = w.heap.size + 2 := by rw [← HSV.out]; simp [World.setCell]
  clear p0 p1 p2 p3 p4 p5 p6 p7 p8 p9 q0 q1 q2 q3 q4 q5 q6 q7 q8 q9 hZ0 hZ1 HSV hlt0 hlt1 hRV
  generalize V.setCell ⟨w.heap.size + 1, 0, none⟩ (.int .i64 1) = V at b0 b1 hbV hs1 ⊢
  have hP : TmmAt w 1 f none 0 [] V := ⟨hbV, by omega, b0, b1, World.ownsRow_nil _ _ _ _⟩
  clear b0 b1 hbV hs1
  have hn4 : (n : Int) / 4 = (ws.length : Int) := by have := HWL.out; omega
  have HN4 := Lib.hid hn4
  clear hn4
  have hwlen : ws.length ≤ 250000 := by have := HWL.out; omega
  have HWLEN := Lib.hid hwlen
  clear hwlen
  go_wp2_with fail
  rw [HN4.out]
  go_loopw [9, 10] (fun iv _ wr => ∃ (q p : Nat) (Ar : Option Addr) (cr : Nat), Hid (p = 2 * q + 2) ∧ (p ≤ ws.length + 1 ∨ p = 2) ∧ iv = .int .i64 (p : Int) ∧ TmmAt w 1 f Ar cr ((tupsR ws).take q) wr) (fun iv _ _ => ws.length + 2 - (intOf iv).toNat)
  case atStart => exact ⟨0, 2, none, 0, by first | exact Lib.hid rfl | rfl | simp, .inr rfl, rfl, by simpa using hP⟩
  case round =>
    obtain ⟨q, p, Ar, cr, HPQ, hpl, rfl, hP⟩ := hrel
    by_cases hlt : p + 1 < ws.length
    · have g3 : decide ((p : Int) + 1 < (ws.length : Int)) = true := by simp; omega
      have hpn : p ≤ 250000 := by have := HWLEN.out; omega
      have hRr := h0.out.on hP.below
      obtain ⟨y0, y1, y2, y3, y4, y5, y6, y7, y8, y9⟩ := blk10 hP.b1
      have htk := tupsR_take HPQ.out hlt
      have hxa := hw.at p
      have hxb := hw.at (p + 1)
      have hin := tupR_in hxa hxb
      have hwd := fun W (hb : Below wr.heap.size wr W) => ref6_word A n c ws W (hRr.on hb) hw hn p (p : Int) rfl (by omega)
      have hwd1 := ref6_word A n c ws wr hRr hw hn (p + 1) ((p : Int) + 1) (by simp) (by omega)
      have hll : ((tupsR ws).take q).length ≤ 250000 := by
        rw [List.length_take, tupsR_len]
        have := HWLEN.out
        omega
      have hsm : ∀ t ∈ (tupsR ws).take (q + 1), t.In := fun t ht => tupsR_in hw t (List.mem_of_mem_take ht)
      have HSM := Lib.hid hsm
      clear hsm hpl
      generalize ws.getD p 0 = xa at hwd htk hxa hin
      generalize ws.getD (p + 1) 0 = x at hwd1 htk hxb hin
      generalize (tupsR ws).take q = L at hP htk hll y0 y1 y2 y3 y4 y5 y6 y7 y8 y9
      generalize hL2 : (tupsR ws).take (q + 1) = L2 at htk HSM
      have HL2 := Lib.hid hL2
      have HTK := Lib.hid htk
      have hE63 : x / 67108864 ≤ 63 := by omega
      have hM1 := and32 17 (by omega) (x / 512) (by omega) 131071 rfl
      have hM63 : x / 512 % 2 ^ 17 < 131072 := by omega
      have hO1 := and32 9 (by omega) x hxb 511 rfl
      have hO511 : x % 2 ^ 9 < 512 := by omega
      have hro : opR ((x / 67108864 : Nat) : Int) (x / 512 % 2 ^ 17) 17 = opN (x / 67108864) (x / 512 % 131072) := by
        unfold opR
        rw [if_pos ⟨by omega, by omega, by simpa using hM63⟩]
        rfl
      have hop : ∀ W, Calls Try.prog 22 #[.int .i64 ((x / 67108864 : Nat) : Int), .int .u32 ((x / 512 % 2 ^ 17 : Nat) : Int), .int .i64 17] W (AnsS (.int .u64 (opR ((x / 67108864 : Nat) : Int) (x / 512 % 2 ^ 17) 17 : Int)) W) := fun W => ref_open_s _ _ 17 W (by omega) (by omega) (by omega)
      rw [hro] at hop
      have htr : tupR (xa, x) = ⟨xa, opN (x / 67108864) (x / 512 % 131072), ((x % 2 ^ 9 : Nat) : Int)⟩ := rfl
      have hc : (tupR (xa, x)).cells = [.int .u32 (xa : Int), .int .u64 (opN (x / 67108864) (x / 512 % 131072) : Int), .int .i64 ((x % 2 ^ 9 : Nat) : Int)] := rfl
      clear hro htr htk hL2
      generalize tupR (xa, x) = T at hin hc HTK
      generalize opN (x / 67108864) (x / 512 % 131072) = R at hop hc
      have hs26 : ((x : Int) / 67108864) = ((x / 67108864 : Nat) : Int) := by simp
      have hs9 : ((x : Int) / 512) = ((x / 512 : Nat) : Int) := by simp
      generalize x / 67108864 = E at hs26 hop hE63
      generalize x / 512 % 2 ^ 17 = M at hM1 hop hM63
      generalize x / 512 = S at hs9 hM1
      generalize x % 2 ^ 9 = O at hO1 hc hO511
      have HS26 := Lib.hid hs26
      have HS9 := Lib.hid hs9
      have HM1 := Lib.hid hM1
      have HO1 := Lib.hid hO1
      have hg1 : w.heap.size + 1 < wr.heap.size := hP.b1.lt
      clear y0 y1 y2 y4 y5 y6 y7 y8 y9 hs26 hs9 hM1 hO1
      go_wp2_with fail
      ((with_reducible refine hwd1.mono ?_); rintro e w1 ⟨rfl, rfl⟩)
      clear hwd1
      go_upto_region 18 with (fail)
      refine wp_region_ft (F := keepF wr) 17 [.val (.pointer (some ⟨w.heap.size + 1, 3, none⟩)), .val (.slice Ar L.length cr), .val (.slice A n c), .val (.int .i64 (p : Int)), .val (.int .u32 (xa : Int)), .val (.int .u32 (x : Int)), .val (.int .u32 (E : Int)), .val (.int .i64 (E : Int)), .val (.int .u32 (x : Int)), .val (.int .u32 (S : Int)), .val (.int .u32 (M : Int)),
          .val (.int .u64 (R : Int)), .val (.int .u32 (x : Int)), .val (.int .u32 (O : Int)), .val (.int .i64 (O : Int)), .val (.agg #[.int .u32 (xa : Int), .int .u64 (R : Int), .int .i64 (O : Int)]), oneT wr T]
        (by kernel_rfl) (by kernel_rfl) (by kernel_rfl) (by decide) (by kernel_rfl) (Below.refl _ _) (AllOblF.upto ⟨?_, ?_, ?_, ?_, ?_, ?_, ?_, ?_, ?_, ?_, ?_, ?_, ?_, ?_, ?_, ?_, ?_, trivial⟩) ?_
      · refine OblF.pure rfl (.pointer (some ⟨w.heap.size + 1, 3, none⟩)) (by kernel_rfl) rfl fun ev W hI hf hx => ?_
        have e8 : ev (.tmp 8) = .pointer (some ⟨w.heap.size + 1, 0, none⟩) := holds_valF (hx (.tmp 8)) (by kernel_rfl)
        simp [execOp, e8, go_sem]
      · refine OblF.pure rfl (.slice Ar L.length cr) (by kernel_rfl) rfl fun ev W hI hf hx => ?_
        have e71 : ev (.tmp 71) = .pointer (some ⟨w.heap.size + 1, 3, none⟩) := holds_valF (hx (.tmp 71)) (by kernel_rfl)
        have d4 := (Below.cell (p := ⟨w.heap.size + 1, 3, none⟩) hI hg1).trans y3
        simp [execOp, e71, go_sem, d4]
      · exact OblF.move rfl _ (Or.inl rfl) (by kernel_rfl) rfl
      · exact OblF.move rfl _ (Or.inl rfl) (by kernel_rfl) rfl
      · refine OblF.call rfl 79 #[.tmp 73, .tmp 74] _ rfl Try.f79 Try.func79 (by kernel_rfl) (by kernel_rfl) rfl fun ev W hI hf hx => ?_
        have e38 : ev (.tmp 73) = .slice A n c := holds_valF (hx (.tmp 73)) (by kernel_rfl)
        have e39 : ev (.tmp 74) = .int .i64 (p : Int) := holds_valF (hx (.tmp 74)) (by kernel_rfl)
        simp only [List.map_toArray, List.map_cons, List.map_nil, e38, e39]
        refine (hwd W hI).mono ?_
        rintro e W' ⟨rfl, rfl⟩
        exact ⟨_, rfl, hI, Below.refl _ _, rfl⟩
      · exact OblF.move rfl _ (Or.inl rfl) (by kernel_rfl) rfl
      · refine OblF.pure rfl (.int .u32 (E : Int)) (by kernel_rfl) rfl fun ev W hI hf hx => ?_
        have e76 : ev (.tmp 76) = .int .u32 (x : Int) := holds_valF (hx (.tmp 76)) (by kernel_rfl)
        have k0 : ev (.const (.int .u64 26)) = .int .u64 26 := holds_valF (hx (.const (.int .u64 26))) (by kernel_rfl)
        simp [execOp, e76, k0, go_sem, HS26.out]
      · refine OblF.pure rfl (.int .i64 (E : Int)) (by kernel_rfl) rfl fun ev W hI hf hx => ?_
        have e77 : ev (.tmp 77) = .int .u32 (E : Int) := holds_valF (hx (.tmp 77)) (by kernel_rfl)
        have hn2 : IntKind.i64.wrap (E : Int) = (E : Int) := by rw [IntKind.wrap_i64]; omega
        simp [execOp, e77, go_sem, hn2]
      · exact OblF.move rfl _ (Or.inl rfl) (by kernel_rfl) rfl
      · refine OblF.pure rfl (.int .u32 (S : Int)) (by kernel_rfl) rfl fun ev W hI hf hx => ?_
        have e79 : ev (.tmp 79) = .int .u32 (x : Int) := holds_valF (hx (.tmp 79)) (by kernel_rfl)
        have k0 : ev (.const (.int .u64 9)) = .int .u64 9 := holds_valF (hx (.const (.int .u64 9))) (by kernel_rfl)
        simp [execOp, e79, k0, go_sem, HS9.out]
      · refine OblF.pure rfl (.int .u32 (M : Int)) (by kernel_rfl) rfl fun ev W hI hf hx => ?_
        have e80 : ev (.tmp 80) = .int .u32 (S : Int) := holds_valF (hx (.tmp 80)) (by kernel_rfl)
        have k0 : ev (.const (.int .u32 131071)) = .int .u32 131071 := holds_valF (hx (.const (.int .u32 131071))) (by kernel_rfl)
        simp [execOp, e80, k0, go_sem, HM1.out]
      · refine OblF.call rfl 22 #[.tmp 78, .tmp 81, .const (.int .i64 17)] _ rfl Try.f22 Try.func22 (by kernel_rfl) (by kernel_rfl) rfl fun ev W hI hf hx => ?_
        have e38 : ev (.tmp 78) = .int .i64 (E : Int) := holds_valF (hx (.tmp 78)) (by kernel_rfl)
        have e39 : ev (.tmp 81) = .int .u32 (M : Int) := holds_valF (hx (.tmp 81)) (by kernel_rfl)
        have k0 : ev (.const (.int .i64 17)) = .int .i64 17 := holds_valF (hx (.const (.int .i64 17))) (by kernel_rfl)
        simp only [List.map_toArray, List.map_cons, List.map_nil, e38, e39, k0]
        refine (hop W).mono ?_
        rintro e W' ⟨rfl, rfl⟩
        exact ⟨_, rfl, hI, Below.refl _ _, rfl⟩
      · exact OblF.move rfl _ (Or.inl rfl) (by kernel_rfl) rfl
      · refine OblF.pure rfl (.int .u32 (O : Int)) (by kernel_rfl) rfl fun ev W hI hf hx => ?_
        have e83 : ev (.tmp 83) = .int .u32 (x : Int) := holds_valF (hx (.tmp 83)) (by kernel_rfl)
        have k0 : ev (.const (.int .u32 511)) = .int .u32 511 := holds_valF (hx (.const (.int .u32 511))) (by kernel_rfl)
        simp [execOp, e83, k0, go_sem, HO1.out]
      · refine OblF.pure rfl (.int .i64 (O : Int)) (by kernel_rfl) rfl fun ev W hI hf hx => ?_
        have e84 : ev (.tmp 84) = .int .u32 (O : Int) := holds_valF (hx (.tmp 84)) (by kernel_rfl)
        have hn2 : IntKind.i64.wrap (O : Int) = (O : Int) := by rw [IntKind.wrap_i64]; omega
        simp [execOp, e84, go_sem, hn2]
      · refine OblF.pure rfl (.agg #[.int .u32 (xa : Int), .int .u64 (R : Int), .int .i64 (O : Int)]) (by kernel_rfl) rfl fun ev W hI hf hx => ?_
        have e75 : ev (.tmp 75) = .int .u32 (xa : Int) := holds_valF (hx (.tmp 75)) (by kernel_rfl)
        have e82 : ev (.tmp 82) = .int .u64 (R : Int) := holds_valF (hx (.tmp 82)) (by kernel_rfl)
        have e85 : ev (.tmp 85) = .int .i64 (O : Int) := holds_valF (hx (.tmp 85)) (by kernel_rfl)
        simp [execOp, e75, e82, e85, go_sem]
      · refine OblF.step rfl fun ev W hI hf hx => ?_
        have e40 : ev (.tmp 86) = .agg #[.int .u32 (xa : Int), .int .u64 (R : Int), .int .i64 (O : Int)] := holds_valF (hx (.tmp 86)) (by kernel_rfl)
        refine ⟨.slice (some ⟨W.heap.size, 0, none⟩) 1 1, W.alloc (.cells #[.int .u32 (xa : Int), .int .u64 (R : Int), .int .i64 (O : Int)] 57), ?_, ?_, ?_, ?_⟩
        · simp [execOp, e40, go_sem]
        · exact Below.trans hI (((Below.refl W.heap.size W).alloc (Nat.le_refl _) _).mono (Below.size hI))
        · exact (Below.refl W.heap.size W).alloc (Nat.le_refl _) _
        · exact ⟨W.heap.size, rfl, lit_rt T hin W _ (by rw [hc])⟩
      intro aa W hI hf hsz hdf hold hv
      have v37 : aa.tmps.getD 72 undef = .slice Ar L.length cr := holds_valF (hv 1 (by decide)) (by kernel_rfl)
      obtain ⟨gw, v41, r9⟩ := oneT_of (t := T) (hv 16 (by decide)) (by kernel_rfl)
      have v41' : aa.tmps.getD 87 undef = .slice (some ⟨gw, 0, none⟩) 1 1 := v41
      have ha := act_puts [71, 72, 73, 74, 75, 76, 77, 78, 79, 80, 81, 82, 83, 84, 85, 86, 87, 88, 89] (by kernel_rfl) hsz hdf hold
      simp only [putAll, v37, v41'] at ha
      generalize aa.tmps.getD 71 undef = x71 at ha
      generalize aa.tmps.getD 73 undef = x73 at ha
      generalize aa.tmps.getD 74 undef = x74 at ha
      generalize aa.tmps.getD 75 undef = x75 at ha
      generalize aa.tmps.getD 76 undef = x76 at ha
      generalize aa.tmps.getD 77 undef = x77 at ha
      generalize aa.tmps.getD 78 undef = x78 at ha
      generalize aa.tmps.getD 79 undef = x79 at ha
      generalize aa.tmps.getD 80 undef = x80 at ha
      generalize aa.tmps.getD 81 undef = x81 at ha
      generalize aa.tmps.getD 82 undef = x82 at ha
      generalize aa.tmps.getD 83 undef = x83 at ha
      generalize aa.tmps.getD 84 undef = x84 at ha
      generalize aa.tmps.getD 85 undef = x85 at ha
      generalize aa.tmps.getD 86 undef = x86 at ha
      generalize aa.tmps.getD 88 undef = x88 at ha
      generalize aa.tmps.getD 89 undef = x89 at ha
      clear hv hold hsz hdf
      subst ha
      clear v37 v41'
      simp only [List.toList_toArray, List.drop_succ_cons, List.drop_zero, Act.put, List.setIfInBounds_toArray, List.set_cons_succ, List.set_cons_zero]
      have hPW := hP.on hI
      have hB2 := hPW.size
      have ho5 := hPW.own
      have hbb : L.length + 1 ≤ 1000000 := by omega
      have HBB := Lib.hid hbb
      have hpl : p + 2 ≤ ws.length + 1 := by omega
      have hpq : p + 2 = 2 * (q + 1) + 2 := by have := HPQ.out; omega
      have HPQ2 : Hid (p + 2 = 2 * (q + 1) + 2) := Lib.hid hpq
      have hlow : ∀ k, (Value.slice Ar L.length cr).ownBlock = some k → w.heap.size + 2 ≤ k := fun k hk => (World.ownsRow.lt ho5 k hk).1
      have HLOW := Lib.hid hlow
      clear hbb hI hf hP y3 hll hwd hRr hlow hpq
      go_wp2_with (at_builtin; go_loud ((with_reducible refine wpList_appendT rfl (.tmp 72) (.tmp 87) rfl rfl (w.heap.size + 2) _ _ (by with_unfolding_all rfl) ho5 W.heap.size _ 1 1 _ (by with_unfolding_all rfl) r9 HBB.out hB2 ?_); rintro v7 W7 ⟨o7, g7⟩; rw [HTK.out] at o7; obtain ⟨A7, c7, rfl, r7⟩ := o7.rt HSM.out; have b17 := blk_grown hPW.b1 g7 (fun e => by have := HLOW.out _ e; omega); have k4 := b17.cell 3; have f4 := b17.frozen 3; simp only [List.getElem?_toArray, List.getElem?_cons_succ, List.getElem?_cons_zero] at k4))
      have hP7 := hPW.push o7 g7
      clear hPW o7 g7 r7 b17 k4 f4 ho5 r9
      go_roundw
      case rel => exact ⟨q + 1, p + 2, A7, c7, HPQ2, .inl hpl, by go_num, by rw [HL2.out]; exact hP7⟩
      case measure => simp [intOf]; omega
    · have g3 : ¬ (p : Int) + 1 < (ws.length : Int) := by omega
      have hpn : p ≤ 300000 := by have := HWLEN.out; omega
      have hq2 : (tupsR ws).length ≤ q := by
        rw [tupsR_len]
        have := HPQ.out
        omega
      rw [List.take_of_length_le hq2] at hP
      have hsm := tupsR_in hw
      have hdl : (tupsR ws).length ≤ 1000000 := by have := HWLEN.out; rw [tupsR_len]; omega
      clear hq2
      generalize hDD : tupsR ws = DD at hP hsm hdl
      have HDD := Lib.hid hDD
      clear hDD
      obtain ⟨p0, p1, p2, p3, p4, p5, p6, p7, p8, p9⟩ := blk10 hP.b1
      obtain ⟨y0, y1, y2, y3, y4, y5, y6, y7, y8, y9⟩ := blk10 hP.b0
      obtain ⟨z0, z1, z2, z3, z4, z5, z6, z7, z8, z9⟩ := frz10 hP.b0
      go_wp2_with fail
      have hbW := hP.below
      have hZ0 := hP.b0
      have hAr := own_block hP.own
      obtain ⟨A6, c6, e6, r6⟩ := hP.own.rt hsm
      injection e6 with e6 _ e7
      subst e6
      subst e7
      have hXW : IsR wr wr.heap.size ⟨⟨1, f, 0, DD, [], [], 0, 0, 0, []⟩, Ar, cr, none, 0, none, 0, none, 0⟩ := ⟨r6, R32.nil _ _ _ _, RN.nil _ _ _ _, R8.nil _ _ _ _, Rep.In.of (i64_small (by omega)) hf (by omega) (by omega) (i64_small (by omega)) (i64_small (by omega)) (by omega) (by simp) (by simp) (by simp)⟩
      have hoff : Rv.Off ⟨⟨1, f, 0, DD, [], [], 0, 0, 0, []⟩, Ar, cr, none, 0, none, 0, none, 0⟩ w.heap.size := by
        intro ad had
        rcases had with had | had | had | had
        · have := hAr ad had; omega
        · cases had
        · cases had
        · cases had
      have hty : Rv.Typed ⟨⟨1, f, 0, DD, [], [], 0, 0, 0, []⟩, Ar, cr, none, 0, none, 0, none, 0⟩ wr := by
        intro ad had
        rcases had with had | had | had | had
        · exact own_typed hP.own (by decide) ad had
        · cases had
        · cases had
        · cases had
      have hlies : Rv.Lies ⟨⟨1, f, 0, DD, [], [], 0, 0, 0, []⟩, Ar, cr, none, 0, none, 0, none, 0⟩ w.heap.size wr.heap.size := by
        intro ad had
        rcases had with had | had | had | had
        · have := hAr ad had; omega
        · cases had
        · cases had
        · cases had
      have hF := set10_blk (W := wr) (v0 := .int .i64 1) (v1 := .int .u32 (f : Int)) (v2 := .int .u32 0) (v3 := .slice Ar DD.length cr) (v4 := .slice none 0 0) (v5 := .slice none 0 0) (v6 := .int .u64 0) (v7 := .int .i64 0) (v8 := .int .i64 0) (v9 := .slice none 0 0) hZ0
      have hG : Below w.heap.size w (set10 (wr) w.heap.size (.int .i64 1) (.int .u32 (f : Int)) (.int .u32 0) (.slice Ar DD.length cr) (.slice none 0 0) (.slice none 0 0) (.int .u64 0) (.int .i64 0) (.int .i64 0) (.slice none 0 0)) := hbW.trans (set10_below (Nat.le_refl _))
      have hX := hXW.but (but_set10 (wr) w.heap.size (.int .i64 1) (.int .u32 (f : Int)) (.int .u32 0) (.slice Ar DD.length cr) (.slice none 0 0) (.slice none 0 0) (.int .u64 0) (.int .i64 0) (.int .i64 0) (.slice none 0 0)) hoff
      have hTy := hty.same (w' := set10 (wr) w.heap.size (.int .i64 1) (.int .u32 (f : Int)) (.int .u32 0) (.slice Ar DD.length cr) (.slice none 0 0) (.slice none 0 0) (.int .u64 0) (.int .i64 0) (.int .i64 0) (.slice none 0 0)) hoff (fun k hk => set10_far hk)
      have hS : (set10 (wr) w.heap.size (.int .i64 1) (.int .u32 (f : Int)) (.int .u32 0) (.slice Ar DD.length cr) (.slice none 0 0) (.slice none 0 0) (.int .u64 0) (.int .i64 0) (.int .i64 0) (.slice none 0 0)).heap.size = (wr).heap.size := set10_size
      rw [← hS] at hlies
      clear hS
      change bodyPost _ _ _ _ _ (set10 (wr) w.heap.size (.int .i64 1) (.int .u32 (f : Int)) (.int .u32 0) (.slice Ar DD.length cr) (.slice none 0 0) (.slice none 0 0) (.int .u64 0) (.int .i64 0) (.int .i64 0) (.slice none 0 0))
      generalize set10 (wr) w.heap.size (.int .i64 1) (.int .u32 (f : Int)) (.int .u32 0) (.slice Ar DD.length cr) (.slice none 0 0) (.slice none 0 0) (.int .u64 0) (.int .i64 0) (.int .i64 0) (.slice none 0 0) = WF at hF hG hX hlies hTy ⊢
      obtain ⟨f0, f1, f2, f3, f4, f5, f6, f7, f8, f9⟩ := blk10 hF
      clear y0 y1 y2 y3 y4 y5 y6 y7 y8 y9 z0 z1 z2 z3 z4 z5 z6 z7 z8 z9 p0 p1 p2 p3 p4 p5 p6 p7 p8 p9
      refine bodyPost_ret (by simp [results, Try.results57, go_sem, f0, f1, f2, f3, f4, f5, f6, f7, f8, f9]; try rfl) rfl ?_
      exact ⟨⟨⟨1, f, 0, DD, [], [], 0, 0, 0, []⟩, Ar, cr, none, 0, none, 0, none, 0⟩, rfl, by rw [HDD.out], hX, hlies, hTy, hG⟩
set_option maxHeartbeats 4000000 in
theorem parse_tmm2 (A : Option Addr) (n c : Nat) (ws : List Nat) (w : World) (h : R8 w w.heap.size A n c (wB ws)) (hw : Small ws) (hn : n ≤ 1000000) :
    Calls Try.prog 57 #[.int .i64 205, .int .i64 4, .slice A n c] w (NewRep w (parseR 205 4 ws)) := by
  have hp : parseR 205 4 ws = ⟨2, ws.getD 0 0, 0, tupsR ws, [], [], 0, 0, 0, []⟩ := rfl
  rw [hp]
  clear hp
  have hkn := fun W => ref6_known 205 4 W
  rw [show oursTC 205 4 = true from rfl] at hkn
  have hwl : n = 4 * ws.length := by rw [← h.1, wB_len]; omega
  have h0 := Lib.hid h
  have hb1 : Below w.heap.size w (w.alloc (.cells #[Value.int .i64 0, .int .u32 0, .int .u32 0, .slice none 0 0, .slice none 0 0, .slice none 0 0, .int .u64 0, .int .i64 0, .int .i64 0, .slice none 0 0] 33)) := (Below.refl _ w).alloc (Nat.le_refl _) _
  have hwd := ref6_word A n c ws _ (h.on hb1) hw hn 0 0 rfl (by omega)
  have hf := hw.at 0
  generalize hff : ws.getD 0 0 = f at hwd hf
  have HF0 := Lib.hid hff
  clear hff
  have HWL := Lib.hid hwl
  clear hwl
  go_enter Try.func57, Try.ntmps57
  go_wp2_with fail
  ((with_reducible refine hwd.mono ?_); rintro e w1 ⟨rfl, rfl⟩)
  clear hwd
  go_wp2_with fail
  ((with_reducible refine (hkn _).mono ?_); rintro e w1 ⟨rfl, rfl⟩)
  clear hkn
  go_upto_region 13 with (fail)
  have hbV := hb1.alloc hb1.size (.cells #[Value.int .i64 0, .int .u32 (f : Int), .int .u32 0, .slice none 0 0, .slice none 0 0, .slice none 0 0, .int .u64 0, .int .i64 0, .int .i64 0, .slice none 0 0] 33)
  have hZ0 : Blk ((w.alloc (.cells #[Value.int .i64 0, .int .u32 0, .int .u32 0, .slice none 0 0, .slice none 0 0, .slice none 0 0, .int .u64 0, .int .i64 0, .int .i64 0, .slice none 0 0] 33)).alloc (.cells #[Value.int .i64 0, .int .u32 (f : Int), .int .u32 0, .slice none 0 0, .slice none 0 0, .slice none 0 0, .int .u64 0, .int .i64 0, .int .i64 0, .slice none 0 0] 33)) w.heap.size 33 #[Value.int .i64 0, .int .u32 0, .int .u32 0, .slice none 0 0, .slice none 0 0, .slice none 0 0, .int .u64 0, .int .i64 0, .int .i64 0, .slice none 0 0] := (Blk.new w _ _).alloc _
  have hZ1 : Blk ((w.alloc (.cells #[Value.int .i64 0, .int .u32 0, .int .u32 0, .slice none 0 0, .slice none 0 0, .slice none 0 0, .int .u64 0, .int .i64 0, .int .i64 0, .slice none 0 0] 33)).alloc (.cells #[Value.int .i64 0, .int .u32 (f : Int), .int .u32 0, .slice none 0 0, .slice none 0 0, .slice none 0 0, .int .u64 0, .int .i64 0, .int .i64 0, .slice none 0 0] 33)) (w.heap.size + 1) 33 #[Value.int .i64 0, .int .u32 (f : Int), .int .u32 0, .slice none 0 0, .slice none 0 0, .slice none 0 0, .int .u64 0, .int .i64 0, .int .i64 0, .slice none 0 0] := by
    have h1 := Blk.new (w.alloc (.cells #[Value.int .i64 0, .int .u32 0, .int .u32 0, .slice none 0 0, .slice none 0 0, .slice none 0 0, .int .u64 0, .int .i64 0, .int .i64 0, .slice none 0 0] 33)) 33 #[Value.int .i64 0, .int .u32 (f : Int), .int .u32 0, .slice none 0 0, .slice none 0 0, .slice none 0 0, .int .u64 0, .int .i64 0, .int .i64 0, .slice none 0 0]
    have h2 : (w.alloc (.cells #[Value.int .i64 0, .int .u32 0, .int .u32 0, .slice none 0 0, .slice none 0 0, .slice none 0 0, .int .u64 0, .int .i64 0, .int .i64 0, .slice none 0 0] 33)).heap.size = w.heap.size + 1 := by simp
    rwa [h2] at h1
  have hsV : ((w.alloc (.cells #[Value.int .i64 0, .int .u32 0, .int .u32 0, .slice none 0 0, .slice none 0 0, .slice none 0 0, .int .u64 0, .int .i64 0, .int .i64 0, .slice none 0 0] 33)).alloc (.cells #[Value.int .i64 0, .int .u32 (f : Int), .int .u32 0, .slice none 0 0, .slice none 0 0, .slice none 0 0, .int .u64 0, .int .i64 0, .int .i64 0, .slice none 0 0] 33)).heap.size = w.heap.size + 2 := by simp
  have hRV := h.on hbV
  generalize ((w.alloc (.cells #[Value.int .i64 0, .int .u32 0, .int .u32 0, .slice none 0 0, .slice none 0 0, .slice none 0 0, .int .u64 0, .int .i64 0, .int .i64 0, .slice none 0 0] 33)).alloc (.cells #[Value.int .i64 0, .int .u32 (f : Int), .int .u32 0, .slice none 0 0, .slice none 0 0, .slice none 0 0, .int .u64 0, .int .i64 0, .int .i64 0, .slice none 0 0] 33)) = V at hbV hZ0 hZ1 hsV hRV ⊢
  have HSV := Lib.hid hsV
  have hlt0 : w.heap.size < V.heap.size := by omega
  have hlt1 : w.heap.size + 1 < V.heap.size := by omega
  clear hsV hb1 h
  obtain ⟨p0, p1, p2, p3, p4, p5, p6, p7, p8, p9⟩ := blk10 hZ1
  obtain ⟨q0, q1, q2, q3, q4, q5, q6, q7, q8, q9⟩ := frz10 hZ1
  go_upto_region 14 with (fail)
  have b0 := hZ0.far (p := ⟨w.heap.size + 1, 0, none⟩) (by simp) (.int .i64 2)
  have b1 := hZ1.set_ 0 (.int .i64 2)
  simp only [List.setIfInBounds_toArray, List.set_cons_succ, List.set_cons_zero] at b1
  have hbV := Below.setCell hbV (p := ⟨w.heap.size + 1, 0, none⟩) (by simp) (.int .i64 2)
  have hs1 : (V.setCell ⟨w.heap.size + 1, 0, none⟩ (.int .i64 2)).heap.size = w.heap.size + 2 := by rw [← HSV.out]; simp [World.setCell]
  clear p0 p1 p2 p3 p4 p5 p6 p7 p8 p9 q0 q1 q2 q3 q4 q5 q6 q7 q8 q9 hZ0 hZ1 HSV hlt0 hlt1 hRV
  generalize V.setCell ⟨w.heap.size + 1, 0, none⟩ (.int .i64 2) = V at b0 b1 hbV hs1 ⊢
  have hP : TmmAt w 2 f none 0 [] V := ⟨hbV, by omega, b0, b1, World.ownsRow_nil _ _ _ _⟩
  clear b0 b1 hbV hs1
  have hn4 : (n : Int) / 4 = (ws.length : Int) := by have := HWL.out; omega
  have HN4 := Lib.hid hn4
  clear hn4
  have hwlen : ws.length ≤ 250000 := by have := HWL.out; omega
  have HWLEN := Lib.hid hwlen
  clear hwlen
  go_wp2_with fail
  rw [HN4.out]
  go_loopw [9, 10] (fun iv _ wr => ∃ (q p : Nat) (Ar : Option Addr) (cr : Nat), Hid (p = 2 * q + 2) ∧ (p ≤ ws.length + 1 ∨ p = 2) ∧ iv = .int .i64 (p : Int) ∧ TmmAt w 2 f Ar cr ((tupsR ws).take q) wr) (fun iv _ _ => ws.length + 2 - (intOf iv).toNat)
  case atStart => exact ⟨0, 2, none, 0, by first | exact Lib.hid rfl | rfl | simp, .inr rfl, rfl, by simpa using hP⟩
  case round =>
    obtain ⟨q, p, Ar, cr, HPQ, hpl, rfl, hP⟩ := hrel
    by_cases hlt : p + 1 < ws.length
    · have g3 : decide ((p : Int) + 1 < (ws.length : Int)) = true := by simp; omega
      have hpn : p ≤ 250000 := by have := HWLEN.out; omega
      have hRr := h0.out.on hP.below
      obtain ⟨y0, y1, y2, y3, y4, y5, y6, y7, y8, y9⟩ := blk10 hP.b1
      have htk := tupsR_take HPQ.out hlt
      have hxa := hw.at p
      have hxb := hw.at (p + 1)
      have hin := tupR_in hxa hxb
      have hwd := fun W (hb : Below wr.heap.size wr W) => ref6_word A n c ws W (hRr.on hb) hw hn p (p : Int) rfl (by omega)
      have hwd1 := ref6_word A n c ws wr hRr hw hn (p + 1) ((p : Int) + 1) (by simp) (by omega)
      have hll : ((tupsR ws).take q).length ≤ 250000 := by
        rw [List.length_take, tupsR_len]
        have := HWLEN.out
        omega
      have hsm : ∀ t ∈ (tupsR ws).take (q + 1), t.In := fun t ht => tupsR_in hw t (List.mem_of_mem_take ht)
      have HSM := Lib.hid hsm
      clear hsm hpl
      generalize ws.getD p 0 = xa at hwd htk hxa hin
      generalize ws.getD (p + 1) 0 = x at hwd1 htk hxb hin
      generalize (tupsR ws).take q = L at hP htk hll y0 y1 y2 y3 y4 y5 y6 y7 y8 y9
      generalize hL2 : (tupsR ws).take (q + 1) = L2 at htk HSM
      have HL2 := Lib.hid hL2
      have HTK := Lib.hid htk
      have hE63 : x / 67108864 ≤ 63 := by omega
      have hM1 := and32 17 (by omega) (x / 512) (by omega) 131071 rfl
      have hM63 : x / 512 % 2 ^ 17 < 131072 := by omega
      have hO1 := and32 9 (by omega) x hxb 511 rfl
      have hO511 : x % 2 ^ 9 < 512 := by omega
      have hro : opR ((x / 67108864 : Nat) : Int) (x / 512 % 2 ^ 17) 17 = opN (x / 67108864) (x / 512 % 131072) := by
        unfold opR
        rw [if_pos ⟨by omega, by omega, by simpa using hM63⟩]
        rfl
      have hop : ∀ W, Calls Try.prog 22 #[.int .i64 ((x / 67108864 : Nat) : Int), .int .u32 ((x / 512 % 2 ^ 17 : Nat) : Int), .int .i64 17] W (AnsS (.int .u64 (opR ((x / 67108864 : Nat) : Int) (x / 512 % 2 ^ 17) 17 : Int)) W) := fun W => ref_open_s _ _ 17 W (by omega) (by omega) (by omega)
      rw [hro] at hop
      have htr : tupR (xa, x) = ⟨xa, opN (x / 67108864) (x / 512 % 131072), ((x % 2 ^ 9 : Nat) : Int)⟩ := rfl
      have hc : (tupR (xa, x)).cells = [.int .u32 (xa : Int), .int .u64 (opN (x / 67108864) (x / 512 % 131072) : Int), .int .i64 ((x % 2 ^ 9 : Nat) : Int)] := rfl
      clear hro htr htk hL2
      generalize tupR (xa, x) = T at hin hc HTK
      generalize opN (x / 67108864) (x / 512 % 131072) = R at hop hc
      have hs26 : ((x : Int) / 67108864) = ((x / 67108864 : Nat) : Int) := by simp
      have hs9 : ((x : Int) / 512) = ((x / 512 : Nat) : Int) := by simp
      generalize x / 67108864 = E at hs26 hop hE63
      generalize x / 512 % 2 ^ 17 = M at hM1 hop hM63
      generalize x / 512 = S at hs9 hM1
      generalize x % 2 ^ 9 = O at hO1 hc hO511
      have HS26 := Lib.hid hs26
      have HS9 := Lib.hid hs9
      have HM1 := Lib.hid hM1
      have HO1 := Lib.hid hO1
      have hg1 : w.heap.size + 1 < wr.heap.size := hP.b1.lt
      clear y0 y1 y2 y4 y5 y6 y7 y8 y9 hs26 hs9 hM1 hO1
      go_wp2_with fail
      ((with_reducible refine hwd1.mono ?_); rintro e w1 ⟨rfl, rfl⟩)
      clear hwd1
      go_upto_region 18 with (fail)
      refine wp_region_ft (F := keepF wr) 17 [.val (.pointer (some ⟨w.heap.size + 1, 3, none⟩)), .val (.slice Ar L.length cr), .val (.slice A n c), .val (.int .i64 (p : Int)), .val (.int .u32 (xa : Int)), .val (.int .u32 (x : Int)), .val (.int .u32 (E : Int)), .val (.int .i64 (E : Int)), .val (.int .u32 (x : Int)), .val (.int .u32 (S : Int)), .val (.int .u32 (M : Int)),
          .val (.int .u64 (R : Int)), .val (.int .u32 (x : Int)), .val (.int .u32 (O : Int)), .val (.int .i64 (O : Int)), .val (.agg #[.int .u32 (xa : Int), .int .u64 (R : Int), .int .i64 (O : Int)]), oneT wr T]
        (by kernel_rfl) (by kernel_rfl) (by kernel_rfl) (by decide) (by kernel_rfl) (Below.refl _ _) (AllOblF.upto ⟨?_, ?_, ?_, ?_, ?_, ?_, ?_, ?_, ?_, ?_, ?_, ?_, ?_, ?_, ?_, ?_, ?_, trivial⟩) ?_
      · refine OblF.pure rfl (.pointer (some ⟨w.heap.size + 1, 3, none⟩)) (by kernel_rfl) rfl fun ev W hI hf hx => ?_
        have e8 : ev (.tmp 8) = .pointer (some ⟨w.heap.size + 1, 0, none⟩) := holds_valF (hx (.tmp 8)) (by kernel_rfl)
        simp [execOp, e8, go_sem]
      · refine OblF.pure rfl (.slice Ar L.length cr) (by kernel_rfl) rfl fun ev W hI hf hx => ?_
        have e71 : ev (.tmp 71) = .pointer (some ⟨w.heap.size + 1, 3, none⟩) := holds_valF (hx (.tmp 71)) (by kernel_rfl)
        have d4 := (Below.cell (p := ⟨w.heap.size + 1, 3, none⟩) hI hg1).trans y3
        simp [execOp, e71, go_sem, d4]
      · exact OblF.move rfl _ (Or.inl rfl) (by kernel_rfl) rfl
      · exact OblF.move rfl _ (Or.inl rfl) (by kernel_rfl) rfl
      · refine OblF.call rfl 79 #[.tmp 73, .tmp 74] _ rfl Try.f79 Try.func79 (by kernel_rfl) (by kernel_rfl) rfl fun ev W hI hf hx => ?_
        have e38 : ev (.tmp 73) = .slice A n c := holds_valF (hx (.tmp 73)) (by kernel_rfl)
        have e39 : ev (.tmp 74) = .int .i64 (p : Int) := holds_valF (hx (.tmp 74)) (by kernel_rfl)
        simp only [List.map_toArray, List.map_cons, List.map_nil, e38, e39]
        refine (hwd W hI).mono ?_
        rintro e W' ⟨rfl, rfl⟩
        exact ⟨_, rfl, hI, Below.refl _ _, rfl⟩
      · exact OblF.move rfl _ (Or.inl rfl) (by kernel_rfl) rfl
      · refine OblF.pure rfl (.int .u32 (E : Int)) (by kernel_rfl) rfl fun ev W hI hf hx => ?_
        have e76 : ev (.tmp 76) = .int .u32 (x : Int) := holds_valF (hx (.tmp 76)) (by kernel_rfl)
        have k0 : ev (.const (.int .u64 26)) = .int .u64 26 := holds_valF (hx (.const (.int .u64 26))) (by kernel_rfl)
        simp [execOp, e76, k0, go_sem, HS26.out]
      · refine OblF.pure rfl (.int .i64 (E : Int)) (by kernel_rfl) rfl fun ev W hI hf hx => ?_
        have e77 : ev (.tmp 77) = .int .u32 (E : Int) := holds_valF (hx (.tmp 77)) (by kernel_rfl)
        have hn2 : IntKind.i64.wrap (E : Int) = (E : Int) := by rw [IntKind.wrap_i64]; omega
        simp [execOp, e77, go_sem, hn2]
      · exact OblF.move rfl _ (Or.inl rfl) (by kernel_rfl) rfl
      · refine OblF.pure rfl (.int .u32 (S : Int)) (by kernel_rfl) rfl fun ev W hI hf hx => ?_
        have e79 : ev (.tmp 79) = .int .u32 (x : Int) := holds_valF (hx (.tmp 79)) (by kernel_rfl)
        have k0 : ev (.const (.int .u64 9)) = .int .u64 9 := holds_valF (hx (.const (.int .u64 9))) (by kernel_rfl)
        simp [execOp, e79, k0, go_sem, HS9.out]
      · refine OblF.pure rfl (.int .u32 (M : Int)) (by kernel_rfl) rfl fun ev W hI hf hx => ?_
        have e80 : ev (.tmp 80) = .int .u32 (S : Int) := holds_valF (hx (.tmp 80)) (by kernel_rfl)
        have k0 : ev (.const (.int .u32 131071)) = .int .u32 131071 := holds_valF (hx (.const (.int .u32 131071))) (by kernel_rfl)
        simp [execOp, e80, k0, go_sem, HM1.out]
      · refine OblF.call rfl 22 #[.tmp 78, .tmp 81, .const (.int .i64 17)] _ rfl Try.f22 Try.func22 (by kernel_rfl) (by kernel_rfl) rfl fun ev W hI hf hx => ?_
        have e38 : ev (.tmp 78) = .int .i64 (E : Int) := holds_valF (hx (.tmp 78)) (by kernel_rfl)
        have e39 : ev (.tmp 81) = .int .u32 (M : Int) := holds_valF (hx (.tmp 81)) (by kernel_rfl)
        have k0 : ev (.const (.int .i64 17)) = .int .i64 17 := holds_valF (hx (.const (.int .i64 17))) (by kernel_rfl)
        simp only [List.map_toArray, List.map_cons, List.map_nil, e38, e39, k0]
        refine (hop W).mono ?_
        rintro e W' ⟨rfl, rfl⟩
        exact ⟨_, rfl, hI, Below.refl _ _, rfl⟩
      · exact OblF.move rfl _ (Or.inl rfl) (by kernel_rfl) rfl
      · refine OblF.pure rfl (.int .u32 (O : Int)) (by kernel_rfl) rfl fun ev W hI hf hx => ?_
        have e83 : ev (.tmp 83) = .int .u32 (x : Int) := holds_valF (hx (.tmp 83)) (by kernel_rfl)
        have k0 : ev (.const (.int .u32 511)) = .int .u32 511 := holds_valF (hx (.const (.int .u32 511))) (by kernel_rfl)
        simp [execOp, e83, k0, go_sem, HO1.out]
      · refine OblF.pure rfl (.int .i64 (O : Int)) (by kernel_rfl) rfl fun ev W hI hf hx => ?_
        have e84 : ev (.tmp 84) = .int .u32 (O : Int) := holds_valF (hx (.tmp 84)) (by kernel_rfl)
        have hn2 : IntKind.i64.wrap (O : Int) = (O : Int) := by rw [IntKind.wrap_i64]; omega
        simp [execOp, e84, go_sem, hn2]
      · refine OblF.pure rfl (.agg #[.int .u32 (xa : Int), .int .u64 (R : Int), .int .i64 (O : Int)]) (by kernel_rfl) rfl fun ev W hI hf hx => ?_
        have e75 : ev (.tmp 75) = .int .u32 (xa : Int) := holds_valF (hx (.tmp 75)) (by kernel_rfl)
        have e82 : ev (.tmp 82) = .int .u64 (R : Int) := holds_valF (hx (.tmp 82)) (by kernel_rfl)
        have e85 : ev (.tmp 85) = .int .i64 (O : Int) := holds_valF (hx (.tmp 85)) (by kernel_rfl)
        simp [execOp, e75, e82, e85, go_sem]
      · refine OblF.step rfl fun ev W hI hf hx => ?_
        have e40 : ev (.tmp 86) = .agg #[.int .u32 (xa : Int), .int .u64 (R : Int), .int .i64 (O : Int)] := holds_valF (hx (.tmp 86)) (by kernel_rfl)
        refine ⟨.slice (some ⟨W.heap.size, 0, none⟩) 1 1, W.alloc (.cells #[.int .u32 (xa : Int), .int .u64 (R : Int), .int .i64 (O : Int)] 57), ?_, ?_, ?_, ?_⟩
        · simp [execOp, e40, go_sem]
        · exact Below.trans hI (((Below.refl W.heap.size W).alloc (Nat.le_refl _) _).mono (Below.size hI))
        · exact (Below.refl W.heap.size W).alloc (Nat.le_refl _) _
        · exact ⟨W.heap.size, rfl, lit_rt T hin W _ (by rw [hc])⟩
      intro aa W hI hf hsz hdf hold hv
      have v37 : aa.tmps.getD 72 undef = .slice Ar L.length cr := holds_valF (hv 1 (by decide)) (by kernel_rfl)
      obtain ⟨gw, v41, r9⟩ := oneT_of (t := T) (hv 16 (by decide)) (by kernel_rfl)
      have v41' : aa.tmps.getD 87 undef = .slice (some ⟨gw, 0, none⟩) 1 1 := v41
      have ha := act_puts [71, 72, 73, 74, 75, 76, 77, 78, 79, 80, 81, 82, 83, 84, 85, 86, 87, 88, 89] (by kernel_rfl) hsz hdf hold
      simp only [putAll, v37, v41'] at ha
      generalize aa.tmps.getD 71 undef = x71 at ha
      generalize aa.tmps.getD 73 undef = x73 at ha
      generalize aa.tmps.getD 74 undef = x74 at ha
      generalize aa.tmps.getD 75 undef = x75 at ha
      generalize aa.tmps.getD 76 undef = x76 at ha
      generalize aa.tmps.getD 77 undef = x77 at ha
      generalize aa.tmps.getD 78 undef = x78 at ha
      generalize aa.tmps.getD 79 undef = x79 at ha
      generalize aa.tmps.getD 80 undef = x80 at ha
      generalize aa.tmps.getD 81 undef = x81 at ha
      generalize aa.tmps.getD 82 undef = x82 at ha
      generalize aa.tmps.getD 83 undef = x83 at ha
      generalize aa.tmps.getD 84 undef = x84 at ha
      generalize aa.tmps.getD 85 undef = x85 at ha
      generalize aa.tmps.getD 86 undef = x86 at ha
      generalize aa.tmps.getD 88 undef = x88 at ha
      generalize aa.tmps.getD 89 undef = x89 at ha
      clear hv hold hsz hdf
      subst ha
      clear v37 v41'
      simp only [List.toList_toArray, List.drop_succ_cons, List.drop_zero, Act.put, List.setIfInBounds_toArray, List.set_cons_succ, List.set_cons_zero]
      have hPW := hP.on hI
      have hB2 := hPW.size
      have ho5 := hPW.own
      have hbb : L.length + 1 ≤ 1000000 := by omega
      have HBB := Lib.hid hbb
      have hpl : p + 2 ≤ ws.length + 1 := by omega
      have hpq : p + 2 = 2 * (q + 1) + 2 := by have := HPQ.out; omega
      have HPQ2 : Hid (p + 2 = 2 * (q + 1) + 2) := Lib.hid hpq
      have hlow : ∀ k, (Value.slice Ar L.length cr).ownBlock = some k → w.heap.size + 2 ≤ k := fun k hk => (World.ownsRow.lt ho5 k hk).1
      have HLOW := Lib.hid hlow
      clear hbb hI hf hP y3 hll hwd hRr hlow hpq
      go_wp2_with (at_builtin; go_loud ((with_reducible refine wpList_appendT rfl (.tmp 72) (.tmp 87) rfl rfl (w.heap.size + 2) _ _ (by with_unfolding_all rfl) ho5 W.heap.size _ 1 1 _ (by with_unfolding_all rfl) r9 HBB.out hB2 ?_); rintro v7 W7 ⟨o7, g7⟩; rw [HTK.out] at o7; obtain ⟨A7, c7, rfl, r7⟩ := o7.rt HSM.out; have b17 := blk_grown hPW.b1 g7 (fun e => by have := HLOW.out _ e; omega); have k4 := b17.cell 3; have f4 := b17.frozen 3; simp only [List.getElem?_toArray, List.getElem?_cons_succ, List.getElem?_cons_zero] at k4))
      have hP7 := hPW.push o7 g7
      clear hPW o7 g7 r7 b17 k4 f4 ho5 r9
      go_roundw
      case rel => exact ⟨q + 1, p + 2, A7, c7, HPQ2, .inl hpl, by go_num, by rw [HL2.out]; exact hP7⟩
      case measure => simp [intOf]; omega
    · have g3 : ¬ (p : Int) + 1 < (ws.length : Int) := by omega
      have hpn : p ≤ 300000 := by have := HWLEN.out; omega
      have hq2 : (tupsR ws).length ≤ q := by
        rw [tupsR_len]
        have := HPQ.out
        omega
      rw [List.take_of_length_le hq2] at hP
      have hsm := tupsR_in hw
      have hdl : (tupsR ws).length ≤ 1000000 := by have := HWLEN.out; rw [tupsR_len]; omega
      clear hq2
      generalize hDD : tupsR ws = DD at hP hsm hdl
      have HDD := Lib.hid hDD
      clear hDD
      obtain ⟨p0, p1, p2, p3, p4, p5, p6, p7, p8, p9⟩ := blk10 hP.b1
      obtain ⟨y0, y1, y2, y3, y4, y5, y6, y7, y8, y9⟩ := blk10 hP.b0
      obtain ⟨z0, z1, z2, z3, z4, z5, z6, z7, z8, z9⟩ := frz10 hP.b0
      go_wp2_with fail
      have hbW := hP.below
      have hZ0 := hP.b0
      have hAr := own_block hP.own
      obtain ⟨A6, c6, e6, r6⟩ := hP.own.rt hsm
      injection e6 with e6 _ e7
      subst e6
      subst e7
      have hXW : IsR wr wr.heap.size ⟨⟨2, f, 0, DD, [], [], 0, 0, 0, []⟩, Ar, cr, none, 0, none, 0, none, 0⟩ := ⟨r6, R32.nil _ _ _ _, RN.nil _ _ _ _, R8.nil _ _ _ _, Rep.In.of (i64_small (by omega)) hf (by omega) (by omega) (i64_small (by omega)) (i64_small (by omega)) (by omega) (by simp) (by simp) (by simp)⟩
      have hoff : Rv.Off ⟨⟨2, f, 0, DD, [], [], 0, 0, 0, []⟩, Ar, cr, none, 0, none, 0, none, 0⟩ w.heap.size := by
        intro ad had
        rcases had with had | had | had | had
        · have := hAr ad had; omega
        · cases had
        · cases had
        · cases had
      have hty : Rv.Typed ⟨⟨2, f, 0, DD, [], [], 0, 0, 0, []⟩, Ar, cr, none, 0, none, 0, none, 0⟩ wr := by
        intro ad had
        rcases had with had | had | had | had
        · exact own_typed hP.own (by decide) ad had
        · cases had
        · cases had
        · cases had
      have hlies : Rv.Lies ⟨⟨2, f, 0, DD, [], [], 0, 0, 0, []⟩, Ar, cr, none, 0, none, 0, none, 0⟩ w.heap.size wr.heap.size := by
        intro ad had
        rcases had with had | had | had | had
        · have := hAr ad had; omega
        · cases had
        · cases had
        · cases had
      have hF := set10_blk (W := wr) (v0 := .int .i64 2) (v1 := .int .u32 (f : Int)) (v2 := .int .u32 0) (v3 := .slice Ar DD.length cr) (v4 := .slice none 0 0) (v5 := .slice none 0 0) (v6 := .int .u64 0) (v7 := .int .i64 0) (v8 := .int .i64 0) (v9 := .slice none 0 0) hZ0
      have hG : Below w.heap.size w (set10 (wr) w.heap.size (.int .i64 2) (.int .u32 (f : Int)) (.int .u32 0) (.slice Ar DD.length cr) (.slice none 0 0) (.slice none 0 0) (.int .u64 0) (.int .i64 0) (.int .i64 0) (.slice none 0 0)) := hbW.trans (set10_below (Nat.le_refl _))
      have hX := hXW.but (but_set10 (wr) w.heap.size (.int .i64 2) (.int .u32 (f : Int)) (.int .u32 0) (.slice Ar DD.length cr) (.slice none 0 0) (.slice none 0 0) (.int .u64 0) (.int .i64 0) (.int .i64 0) (.slice none 0 0)) hoff
      have hTy := hty.same (w' := set10 (wr) w.heap.size (.int .i64 2) (.int .u32 (f : Int)) (.int .u32 0) (.slice Ar DD.length cr) (.slice none 0 0) (.slice none 0 0) (.int .u64 0) (.int .i64 0) (.int .i64 0) (.slice none 0 0)) hoff (fun k hk => set10_far hk)
      have hS : (set10 (wr) w.heap.size (.int .i64 2) (.int .u32 (f : Int)) (.int .u32 0) (.slice Ar DD.length cr) (.slice none 0 0) (.slice none 0 0) (.int .u64 0) (.int .i64 0) (.int .i64 0) (.slice none 0 0)).heap.size = (wr).heap.size := set10_size
      rw [← hS] at hlies
      clear hS
      change bodyPost _ _ _ _ _ (set10 (wr) w.heap.size (.int .i64 2) (.int .u32 (f : Int)) (.int .u32 0) (.slice Ar DD.length cr) (.slice none 0 0) (.slice none 0 0) (.int .u64 0) (.int .i64 0) (.int .i64 0) (.slice none 0 0))
      generalize set10 (wr) w.heap.size (.int .i64 2) (.int .u32 (f : Int)) (.int .u32 0) (.slice Ar DD.length cr) (.slice none 0 0) (.slice none 0 0) (.int .u64 0) (.int .i64 0) (.int .i64 0) (.slice none 0 0) = WF at hF hG hX hlies hTy ⊢
      obtain ⟨f0, f1, f2, f3, f4, f5, f6, f7, f8, f9⟩ := blk10 hF
      clear y0 y1 y2 y3 y4 y5 y6 y7 y8 y9 z0 z1 z2 z3 z4 z5 z6 z7 z8 z9 p0 p1 p2 p3 p4 p5 p6 p7 p8 p9
      refine bodyPost_ret (by simp [results, Try.results57, go_sem, f0, f1, f2, f3, f4, f5, f6, f7, f8, f9]; try rfl) rfl ?_
      exact ⟨⟨⟨2, f, 0, DD, [], [], 0, 0, 0, []⟩, Ar, cr, none, 0, none, 0, none, 0⟩, rfl, by rw [HDD.out], hX, hlies, hTy, hG⟩
end Go.Proofs.Ytnchgmemajmkjaa
