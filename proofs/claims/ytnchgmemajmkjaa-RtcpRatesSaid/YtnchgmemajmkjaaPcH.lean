/- Contract: rtcp.words. -/
import Derived.Test.YtnchgmemajmkjaaMk
import Derived.Test.YtnchgmemajmkjaaRcB5
import Derived.Test.YtnchgmemajmkjaaRcB4
namespace Go.Proofs.Ytnchgmemajmkjaa
open Go.RowKit
set_option linter.unusedVariables false
set_option linter.unusedSimpArgs false
set_option maxRecDepth 20000

/-- What follows a report's head, as words. -/
def Rep.ws (r : Rep) : List Nat :=
  if r.kind = 1 ∨ r.kind = 2 then r.src :: 0 :: r.tups.flatMap (fun t => [t.owner, t.word])
  else if r.kind = 4 then r.src :: 0 :: (r.abouts.zip r.nums).flatMap (fun x => [x.1, x.2.toNat * 16777216])
  else if r.kind = 5 then [r.src, 0, 1380273474, rembW r.abouts.length r.rate] ++ r.abouts
  else [r.src, r.about]
theorem wB_app (l m : List Nat) : wB (l ++ m) = wB l ++ wB m := by simp [wB]
theorem wB_flat {α : Type} (f : α → List Nat) (l : List α) : wB (l.flatMap f) = l.flatMap (fun x => wB (f x)) := by
  induction l with
  | nil => rfl
  | cons x r ih => rw [List.flatMap_cons, wB_app, ih, List.flatMap_cons]
theorem Rep.tail_ws {r : Rep} (hk : 1 ≤ r.kind ∧ r.kind ≤ 5) : r.tail = wB r.ws := by
  have hc : r.kind = 1 ∨ r.kind = 2 ∨ r.kind = 3 ∨ r.kind = 4 ∨ r.kind = 5 := by omega
  unfold Rep.tail Rep.ws
  have ht : r.tups.flatMap Tup.bytes = wB (r.tups.flatMap (fun t => [t.owner, t.word])) := by
    rw [wB_flat]
    exact congrArg (fun f => r.tups.flatMap f) (funext Tup.bytes_w)
  have hf : ((r.abouts.zip r.nums).flatMap fun x => be x.1 4 ++ be (x.2.toNat * 16777216) 4) = wB ((r.abouts.zip r.nums).flatMap (fun x => [x.1, x.2.toNat * 16777216])) := by
    rw [wB_flat]
    exact congrArg (fun f => (r.abouts.zip r.nums).flatMap f) (funext fun x => by simp [wB])
  have hm : be 1380273474 4 = [82, 69, 77, 66] := by decide
  rcases hc with h | h | h | h | h
  · rw [if_pos (by omega), if_pos (by omega), ht]; rfl
  · rw [if_pos (by omega), if_pos (by omega), ht]; rfl
  · rw [if_neg (by omega), if_pos h, if_neg (by omega), if_neg (by omega), if_neg (by omega)]; simp [wB]
  · rw [if_neg (by omega), if_neg (by omega), if_pos h, if_neg (by omega), if_pos h, hf]; rfl
  · rw [if_neg (by omega), if_neg (by omega), if_neg (by omega), if_pos h, if_neg (by omega), if_neg (by omega), if_pos h]
    simp [wB, hm, rembW]
def WordsOut (w : World) (l : List Nat) (e : Ending) (w' : World) : Prop := ∃ A c, e = .returned (.slice A l.length c) ∧ R32 w' w'.heap.size A l.length c l ∧ Below w.heap.size w w'
theorem own32_kept {a b : World} {B : Nat} {v : Value} {l : List Nat} (h : Own32 a B v l) (hb : Below a.heap.size a b) : Own32 b B v l :=
  World.ownsRow.kept (row := none) h ⟨hb.os, hb.tape, hb.output, hb.size, fun k hk _ => hb.block k hk⟩ (by cases hv : v.ownBlock <;> simp)
theorem own32_base {w : World} {b b' : Nat} {v : Value} {l : List Nat} (h : Own32 w b v l) (hb : b' ≤ b) : Own32 w b' v l := World.ownsRow.mono h hb
/-- A literal of words is a row that the call owns. -/
theorem own32_lits (w : World) (base : Nat) (l : List Nat) (cs : Array Value) (n : Nat) (hn : l.length = n) (h : (l.map wv).toArray = cs) (hm : n ≤ 1000) (hb : base ≤ w.heap.size) : Own32 (w.alloc (.cells cs 27)) base (.slice (some ⟨w.heap.size, 0, none⟩) n n) l := by
  subst h hn
  exact ⟨by simp, .inr ⟨w.heap.size, l.length, _, rfl, hb, Blk.new _ _ _, Nat.le_refl _, by unfold maxLen; omega, by simp, by rw [Nat.mul_one]; exact List.take_of_length_le (by simp)⟩⟩
theorem lit2_r32 (a b : Nat) (x y : Int) (hx : x = (a : Int)) (hy : y = (b : Int)) (ha : a < 4294967296) (hb : b < 4294967296) (V : World) (g : Nat) (hg : g = V.heap.size) :
    R32 (V.alloc (.cells #[.int .u32 x, .int .u32 y] 27)) (V.alloc (.cells #[.int .u32 x, .int .u32 y] 27)).heap.size (some ⟨g, 0, none⟩) 2 2 [a, b] := by
  subst hx hy
  exact lit_r32 [a, b] _ 2 g V hg rfl rfl (by intro z hz; simp at hz; omega)
theorem tupw_take {l : List Tup} {q : Nat} (h : q < l.length) : (l.take q).flatMap (fun t => [t.owner, t.word]) ++ [l[q].owner, l[q].word] = (l.take (q + 1)).flatMap (fun t => [t.owner, t.word]) := by
  rw [List.take_add_one, List.flatMap_append, List.getElem?_eq_getElem h]
  simp
theorem firw_take {l : List Nat} {m : List Int} {q : Nat} (h : q < l.length) (h' : q < m.length) : ((l.zip m).take q).flatMap (fun x => [x.1, x.2.toNat * 16777216]) ++ [l[q], m[q].toNat * 16777216] = ((l.zip m).take (q + 1)).flatMap (fun x => [x.1, x.2.toNat * 16777216]) := by
  rw [List.take_add_one, List.flatMap_append, List.getElem?_eq_getElem (by simp; omega)]
  simp
set_option maxHeartbeats 4000000 in
theorem words_1 (x : Rv) (w : World) (hx : IsR w w.heap.size x) (hk : x.r.kind = 1) (hok : tupsOk x.r.tups = true) : Calls Try.prog 61 #[x.val] w (WordsOut w x.r.ws) := by
  have hws : x.r.ws = x.r.src :: 0 :: x.r.tups.flatMap (fun t => [t.owner, t.word]) := by unfold Rep.ws; rw [hk]; rfl
  rw [hws]
  clear hws
  obtain ⟨⟨kind, src, about, tups, abouts, nums, rate, ty, count, body⟩, At, ct, Aa, ca, An, cn, Ab, cb⟩ := x
  obtain ⟨t1, t2, t3, t4, kinds⟩ := hx
  obtain ⟨h1, h2, h3, h4, h5, h6, h7, h8, h9, h10⟩ := kinds
  simp only at hk h1 h2 h3 h4 h5 h6 h7 h8 h9 h10 t1 t2 t3 t4
  subst hk
  have hb : Below w.heap.size w (w.alloc (.cells #[.int .i64 1, .int .u32 (src : Int), .int .u32 (about : Int), .slice At tups.length ct, .slice Aa abouts.length ca, .slice An nums.length cn, .int .u64 (rate : Int), .int .i64 ty, .int .i64 count, .slice Ab body.length cb] 33)) := (Below.refl _ w).alloc (Nat.le_refl _) _
  have hZ : Blk (w.alloc (.cells #[.int .i64 1, .int .u32 (src : Int), .int .u32 (about : Int), .slice At tups.length ct, .slice Aa abouts.length ca, .slice An nums.length cn, .int .u64 (rate : Int), .int .i64 ty, .int .i64 count, .slice Ab body.length cb] 33)) w.heap.size 33 #[.int .i64 1, .int .u32 (src : Int), .int .u32 (about : Int), .slice At tups.length ct, .slice Aa abouts.length ca, .slice An nums.length cn, .int .u64 (rate : Int), .int .i64 ty, .int .i64 count, .slice Ab body.length cb] := Blk.new _ _ _
  have hsz : (w.alloc (.cells #[.int .i64 1, .int .u32 (src : Int), .int .u32 (about : Int), .slice At tups.length ct, .slice Aa abouts.length ca, .slice An nums.length cn, .int .u64 (rate : Int), .int .i64 ty, .int .i64 count, .slice Ab body.length cb] 33)).heap.size = w.heap.size + 1 := by simp
  simp only [Rv.val, Rv.cells]
  have hok : tupsOk tups = true := hok
  have hall : ∀ t ∈ tups, t.ok = true := by
    unfold tupsOk at hok
    rw [Bool.and_eq_true, List.all_eq_true] at hok
    exact hok.1
  have hle : tups.length ≤ 6 := by
    unfold tupsOk at hok
    rw [Bool.and_eq_true] at hok
    simpa using hok.2
  have t1 := t1.on hb
  clear t2 t3 t4 h3 h4 h5 h6 h7 h8 h9 h10 hok
  go_enter Try.func61, Try.ntmps61
  go_upto_region 4 with (fail)
  generalize (w.alloc (.cells #[.int .i64 1, .int .u32 (src : Int), .int .u32 (about : Int), .slice At tups.length ct, .slice Aa abouts.length ca, .slice An nums.length cn, .int .u64 (rate : Int), .int .i64 ty, .int .i64 count, .slice Ab body.length cb] 33)) = V at hb hZ hsz t1 ⊢
  obtain ⟨y0, y1, y2, y3, y4, y5, y6, y7, y8, y9⟩ := blk10 hZ
  have HS := Lib.hid hsz
  have hlt : w.heap.size < V.heap.size := by omega
  clear hsz
  clear y0 y2 y4 y5 y6 y7 y8 y9
  have o1 := own32_lits V V.heap.size [src, 0] #[.int .u32 (src : Int), .int .u32 0] 2 rfl rfl (by omega) (Nat.le_refl _)
  have b2 : Below V.heap.size V (V.alloc (.cells #[.int .u32 (src : Int), .int .u32 0] 27)) := (Below.refl _ V).alloc (Nat.le_refl _) _
  have z3 := (b2.cell (p := ⟨w.heap.size, 3, none⟩) hlt).trans y3
  go_upto_region 5 with (fail)
  generalize (V.alloc (.cells #[.int .u32 (src : Int), .int .u32 0] 27)) = V2 at o1 b2 z3 ⊢
  go_wp2_with fail
  clear z3 y1 y3
  go_loopw [3, 25] (fun v iv wr => ∃ q : Nat, q ≤ tups.length ∧ iv = .int .i64 (q : Int) ∧ Own32 wr V.heap.size v ([src, 0] ++ (tups.take q).flatMap (fun t => [t.owner, t.word])) ∧ Below V.heap.size V wr) (fun _ iv _ => tups.length - (intOf iv).toNat)
  case atStart => exact ⟨0, by omega, rfl, by simpa using o1, b2⟩
  case round =>
    obtain ⟨q, hq, rfl, ho, hbr⟩ := hrel
    clear o1 b2
    by_cases hql : q < tups.length
    · have g3 : decide ((q : Int) < (tups.length : Int)) = true := by simp; omega
      obtain ⟨b, off, rfl, hbl, k0, k1, k2⟩ := t1.at hql
      have c0 := (hbr.cell (p := ⟨b, off + q * 3, none⟩) hbl).trans k0
      have c1 := (hbr.cell (p := ⟨b, off + q * 3 + 1, none⟩) hbl).trans k1
      have c2 := (hbr.cell (p := ⟨b, off + q * 3 + 2, none⟩) hbl).trans k2
      have htk := tupw_take hql
      have hin := t1.2.1 _ (List.getElem_mem hql)
      have hok := hall _ (List.getElem_mem hql)
      have hlen : ([src, 0] ++ (tups.take q).flatMap (fun t => [t.owner, t.word])).length ≤ 100 := by
        rw [List.length_append, flat_length (k := 2) (fun _ => rfl), List.length_take]
        simp
        omega
      have htk : ([src, 0] ++ (tups.take q).flatMap (fun t => [t.owner, t.word])) ++ [tups[q].owner, tups[q].word] = [src, 0] ++ (tups.take (q + 1)).flatMap (fun t => [t.owner, t.word]) := by rw [List.append_assoc, htk]
      generalize [src, 0] ++ (tups.take q).flatMap (fun t => [t.owner, t.word]) = L at ho hlen htk
      have htk := Lib.hid htk
      clear k0 k1 k2 t1 hall
      generalize tups[q] = t at c0 c1 c2 htk hin hok
      obtain ⟨or, wlt, e63, m17⟩ := Tup.word_or hin.rate hok
      have o511 := Tup.ok_in hok
      have hpk : ∀ W, Calls Try.prog 80 #[.int .u64 (t.rate : Int), .int .i64 17] W (AnsS (.tuple #[.int .i64 (pkE t.rate 17 : Int), .int .u32 (pkM t.rate 17 : Int)]) W) := fun W => rate_pack_s t.rate 17 W hin.rate
      have OR := Lib.hid or
      have how := hin.owner
      clear or hin hok
      generalize t.word = wd at OR htk wlt
      generalize pkE t.rate 17 = E at *
      generalize pkM t.rate 17 = M at *
      have hs1 : V.heap.size ≤ wr.heap.size := hbr.size
      go_wp2_with fail
      ((with_reducible refine (hpk _).mono ?_); rintro e w3 ⟨rfl, rfl⟩)
      clear hpk c0 c1 c2
      have b5 : Below wr.heap.size wr ((wr.alloc (.cells #[.int .u32 (t.owner : Int), .int .u64 (t.rate : Int), .int .i64 t.over] 57)).alloc (.cells #[.int .u32 (t.owner : Int), .int .u32 (bits .or .u32 (bits .or .u32 ((E : Int) * 67108864) ((M : Int) * 512)) t.over)] 27)) := ((Below.refl _ wr).alloc (Nat.le_refl _) _).alloc (by simp) _
      have ho5 := own32_kept ho b5
      have r5 := lit2_r32 t.owner wd (t.owner : Int) (bits .or .u32 (bits .or .u32 ((E : Int) * 67108864) ((M : Int) * 512)) t.over) rfl OR.out how wlt (wr.alloc (.cells #[.int .u32 (t.owner : Int), .int .u64 (t.rate : Int), .int .i64 t.over] 57)) (wr.heap.size + 1) (by simp)
      have b6 := hbr.trans (b5.mono hs1)
      have hs6 := b6.size
      have HBB := Lib.hid (show L.length + 2 ≤ 1000000 by omega)
      clear ho hlen OR b5 hbr
      go_wp2_with (at_builtin; ((with_reducible refine wpList_append32 rfl (.tmp 35) (.tmp 48) rfl rfl V.heap.size _ L (by with_unfolding_all rfl) ho5 _ (some ⟨wr.heap.size + 1, 0, none⟩) 2 2 [t.owner, wd] (by with_unfolding_all rfl) r5 HBB.out hs6 ?_); rintro v7 w7 ⟨o7, g7⟩))
      have b7 := below_grown b6 hs6 g7 (fun k hk => (World.ownsRow.lt ho5 k hk).1)
      clear ho5 r5 b6 hs6 g7
      go_wp2_with fail
      go_roundw
      case rel => exact ⟨q + 1, by omega, by go_num, by rw [← htk.out]; exact o7, b7⟩
      case measure => simp [intOf]; omega
    · have g3 : decide ((q : Int) < (tups.length : Int)) = false := by simp; omega
      rw [List.take_of_length_le (by omega)] at ho
      have hsm : ∀ z ∈ [src, 0] ++ tups.flatMap (fun t => [t.owner, t.word]), z < 4294967296 := by
        intro z hz
        rcases List.mem_append.1 hz with hz | hz
        · simp at hz; omega
        · obtain ⟨t, ht, hz⟩ := List.mem_flatMap.1 hz
          have i1 := (t1.2.1 t ht).owner
          have i2 := (Tup.word_or (t1.2.1 t ht).rate (hall t ht)).2.1
          simp at hz
          omega
      obtain ⟨A1, c1, rfl, r1⟩ := ho.r32 hsm
      have b7 := hb.trans (hbr.mono hb.size)
      generalize hT : [src, 0] ++ tups.flatMap (fun t => [t.owner, t.word]) = T at r1
      have HT := Lib.hid hT
      clear t1 hall hsm hbr hT ho
      go_wp2_with fail
      go_ret
      refine ⟨A1, c1, ?_, ?_, b7⟩
      · rw [show src :: 0 :: tups.flatMap (fun t => [t.owner, t.word]) = T from HT.out]; rfl
      · rw [show src :: 0 :: tups.flatMap (fun t => [t.owner, t.word]) = T from HT.out]; exact r1
set_option maxHeartbeats 4000000 in
theorem words_2 (x : Rv) (w : World) (hx : IsR w w.heap.size x) (hk : x.r.kind = 2) (hok : tupsOk x.r.tups = true) : Calls Try.prog 61 #[x.val] w (WordsOut w x.r.ws) := by
  have hws : x.r.ws = x.r.src :: 0 :: x.r.tups.flatMap (fun t => [t.owner, t.word]) := by unfold Rep.ws; rw [hk]; rfl
  rw [hws]
  clear hws
  obtain ⟨⟨kind, src, about, tups, abouts, nums, rate, ty, count, body⟩, At, ct, Aa, ca, An, cn, Ab, cb⟩ := x
  obtain ⟨t1, t2, t3, t4, kinds⟩ := hx
  obtain ⟨h1, h2, h3, h4, h5, h6, h7, h8, h9, h10⟩ := kinds
  simp only at hk h1 h2 h3 h4 h5 h6 h7 h8 h9 h10 t1 t2 t3 t4
  subst hk
  have hb : Below w.heap.size w (w.alloc (.cells #[.int .i64 2, .int .u32 (src : Int), .int .u32 (about : Int), .slice At tups.length ct, .slice Aa abouts.length ca, .slice An nums.length cn, .int .u64 (rate : Int), .int .i64 ty, .int .i64 count, .slice Ab body.length cb] 33)) := (Below.refl _ w).alloc (Nat.le_refl _) _
  have hZ : Blk (w.alloc (.cells #[.int .i64 2, .int .u32 (src : Int), .int .u32 (about : Int), .slice At tups.length ct, .slice Aa abouts.length ca, .slice An nums.length cn, .int .u64 (rate : Int), .int .i64 ty, .int .i64 count, .slice Ab body.length cb] 33)) w.heap.size 33 #[.int .i64 2, .int .u32 (src : Int), .int .u32 (about : Int), .slice At tups.length ct, .slice Aa abouts.length ca, .slice An nums.length cn, .int .u64 (rate : Int), .int .i64 ty, .int .i64 count, .slice Ab body.length cb] := Blk.new _ _ _
  have hsz : (w.alloc (.cells #[.int .i64 2, .int .u32 (src : Int), .int .u32 (about : Int), .slice At tups.length ct, .slice Aa abouts.length ca, .slice An nums.length cn, .int .u64 (rate : Int), .int .i64 ty, .int .i64 count, .slice Ab body.length cb] 33)).heap.size = w.heap.size + 1 := by simp
  simp only [Rv.val, Rv.cells]
  have hok : tupsOk tups = true := hok
  have hall : ∀ t ∈ tups, t.ok = true := by
    unfold tupsOk at hok
    rw [Bool.and_eq_true, List.all_eq_true] at hok
    exact hok.1
  have hle : tups.length ≤ 6 := by
    unfold tupsOk at hok
    rw [Bool.and_eq_true] at hok
    simpa using hok.2
  have t1 := t1.on hb
  clear t2 t3 t4 h3 h4 h5 h6 h7 h8 h9 h10 hok
  go_enter Try.func61, Try.ntmps61
  go_upto_region 4 with (fail)
  generalize (w.alloc (.cells #[.int .i64 2, .int .u32 (src : Int), .int .u32 (about : Int), .slice At tups.length ct, .slice Aa abouts.length ca, .slice An nums.length cn, .int .u64 (rate : Int), .int .i64 ty, .int .i64 count, .slice Ab body.length cb] 33)) = V at hb hZ hsz t1 ⊢
  obtain ⟨y0, y1, y2, y3, y4, y5, y6, y7, y8, y9⟩ := blk10 hZ
  have HS := Lib.hid hsz
  have hlt : w.heap.size < V.heap.size := by omega
  clear hsz
  clear y0 y2 y4 y5 y6 y7 y8 y9
  have o1 := own32_lits V V.heap.size [src, 0] #[.int .u32 (src : Int), .int .u32 0] 2 rfl rfl (by omega) (Nat.le_refl _)
  have b2 : Below V.heap.size V (V.alloc (.cells #[.int .u32 (src : Int), .int .u32 0] 27)) := (Below.refl _ V).alloc (Nat.le_refl _) _
  have z3 := (b2.cell (p := ⟨w.heap.size, 3, none⟩) hlt).trans y3
  go_upto_region 5 with (fail)
  generalize (V.alloc (.cells #[.int .u32 (src : Int), .int .u32 0] 27)) = V2 at o1 b2 z3 ⊢
  go_wp2_with fail
  clear z3 y1 y3
  go_loopw [3, 25] (fun v iv wr => ∃ q : Nat, q ≤ tups.length ∧ iv = .int .i64 (q : Int) ∧ Own32 wr V.heap.size v ([src, 0] ++ (tups.take q).flatMap (fun t => [t.owner, t.word])) ∧ Below V.heap.size V wr) (fun _ iv _ => tups.length - (intOf iv).toNat)
  case atStart => exact ⟨0, by omega, rfl, by simpa using o1, b2⟩
  case round =>
    obtain ⟨q, hq, rfl, ho, hbr⟩ := hrel
    clear o1 b2
    by_cases hql : q < tups.length
    · have g3 : decide ((q : Int) < (tups.length : Int)) = true := by simp; omega
      obtain ⟨b, off, rfl, hbl, k0, k1, k2⟩ := t1.at hql
      have c0 := (hbr.cell (p := ⟨b, off + q * 3, none⟩) hbl).trans k0
      have c1 := (hbr.cell (p := ⟨b, off + q * 3 + 1, none⟩) hbl).trans k1
      have c2 := (hbr.cell (p := ⟨b, off + q * 3 + 2, none⟩) hbl).trans k2
      have htk := tupw_take hql
      have hin := t1.2.1 _ (List.getElem_mem hql)
      have hok := hall _ (List.getElem_mem hql)
      have hlen : ([src, 0] ++ (tups.take q).flatMap (fun t => [t.owner, t.word])).length ≤ 100 := by
        rw [List.length_append, flat_length (k := 2) (fun _ => rfl), List.length_take]
        simp
        omega
      have htk : ([src, 0] ++ (tups.take q).flatMap (fun t => [t.owner, t.word])) ++ [tups[q].owner, tups[q].word] = [src, 0] ++ (tups.take (q + 1)).flatMap (fun t => [t.owner, t.word]) := by rw [List.append_assoc, htk]
      generalize [src, 0] ++ (tups.take q).flatMap (fun t => [t.owner, t.word]) = L at ho hlen htk
      have htk := Lib.hid htk
      clear k0 k1 k2 t1 hall
      generalize tups[q] = t at c0 c1 c2 htk hin hok
      obtain ⟨or, wlt, e63, m17⟩ := Tup.word_or hin.rate hok
      have o511 := Tup.ok_in hok
      have hpk : ∀ W, Calls Try.prog 80 #[.int .u64 (t.rate : Int), .int .i64 17] W (AnsS (.tuple #[.int .i64 (pkE t.rate 17 : Int), .int .u32 (pkM t.rate 17 : Int)]) W) := fun W => rate_pack_s t.rate 17 W hin.rate
      have OR := Lib.hid or
      have how := hin.owner
      clear or hin hok
      generalize t.word = wd at OR htk wlt
      generalize pkE t.rate 17 = E at *
      generalize pkM t.rate 17 = M at *
      have hs1 : V.heap.size ≤ wr.heap.size := hbr.size
      go_wp2_with fail
      ((with_reducible refine (hpk _).mono ?_); rintro e w3 ⟨rfl, rfl⟩)
      clear hpk c0 c1 c2
      have b5 : Below wr.heap.size wr ((wr.alloc (.cells #[.int .u32 (t.owner : Int), .int .u64 (t.rate : Int), .int .i64 t.over] 57)).alloc (.cells #[.int .u32 (t.owner : Int), .int .u32 (bits .or .u32 (bits .or .u32 ((E : Int) * 67108864) ((M : Int) * 512)) t.over)] 27)) := ((Below.refl _ wr).alloc (Nat.le_refl _) _).alloc (by simp) _
      have ho5 := own32_kept ho b5
      have r5 := lit2_r32 t.owner wd (t.owner : Int) (bits .or .u32 (bits .or .u32 ((E : Int) * 67108864) ((M : Int) * 512)) t.over) rfl OR.out how wlt (wr.alloc (.cells #[.int .u32 (t.owner : Int), .int .u64 (t.rate : Int), .int .i64 t.over] 57)) (wr.heap.size + 1) (by simp)
      have b6 := hbr.trans (b5.mono hs1)
      have hs6 := b6.size
      have HBB := Lib.hid (show L.length + 2 ≤ 1000000 by omega)
      clear ho hlen OR b5 hbr
      go_wp2_with (at_builtin; ((with_reducible refine wpList_append32 rfl (.tmp 35) (.tmp 48) rfl rfl V.heap.size _ L (by with_unfolding_all rfl) ho5 _ (some ⟨wr.heap.size + 1, 0, none⟩) 2 2 [t.owner, wd] (by with_unfolding_all rfl) r5 HBB.out hs6 ?_); rintro v7 w7 ⟨o7, g7⟩))
      have b7 := below_grown b6 hs6 g7 (fun k hk => (World.ownsRow.lt ho5 k hk).1)
      clear ho5 r5 b6 hs6 g7
      go_wp2_with fail
      go_roundw
      case rel => exact ⟨q + 1, by omega, by go_num, by rw [← htk.out]; exact o7, b7⟩
      case measure => simp [intOf]; omega
    · have g3 : decide ((q : Int) < (tups.length : Int)) = false := by simp; omega
      rw [List.take_of_length_le (by omega)] at ho
      have hsm : ∀ z ∈ [src, 0] ++ tups.flatMap (fun t => [t.owner, t.word]), z < 4294967296 := by
        intro z hz
        rcases List.mem_append.1 hz with hz | hz
        · simp at hz; omega
        · obtain ⟨t, ht, hz⟩ := List.mem_flatMap.1 hz
          have i1 := (t1.2.1 t ht).owner
          have i2 := (Tup.word_or (t1.2.1 t ht).rate (hall t ht)).2.1
          simp at hz
          omega
      obtain ⟨A1, c1, rfl, r1⟩ := ho.r32 hsm
      have b7 := hb.trans (hbr.mono hb.size)
      generalize hT : [src, 0] ++ tups.flatMap (fun t => [t.owner, t.word]) = T at r1
      have HT := Lib.hid hT
      clear t1 hall hsm hbr hT ho
      go_wp2_with fail
      go_ret
      refine ⟨A1, c1, ?_, ?_, b7⟩
      · rw [show src :: 0 :: tups.flatMap (fun t => [t.owner, t.word]) = T from HT.out]; rfl
      · rw [show src :: 0 :: tups.flatMap (fun t => [t.owner, t.word]) = T from HT.out]; exact r1
set_option maxHeartbeats 4000000 in
theorem words_3 (x : Rv) (w : World) (hx : IsR w w.heap.size x) (hk : x.r.kind = 3) : Calls Try.prog 61 #[x.val] w (WordsOut w x.r.ws) := by
  have hws : x.r.ws = [x.r.src, x.r.about] := by unfold Rep.ws; rw [hk]; rfl
  rw [hws]
  clear hws
  obtain ⟨⟨kind, src, about, tups, abouts, nums, rate, ty, count, body⟩, At, ct, Aa, ca, An, cn, Ab, cb⟩ := x
  obtain ⟨t1, t2, t3, t4, kinds⟩ := hx
  obtain ⟨h1, h2, h3, h4, h5, h6, h7, h8, h9, h10⟩ := kinds
  simp only at hk h1 h2 h3 h4 h5 h6 h7 h8 h9 h10 t1 t2 t3 t4
  subst hk
  have hb : Below w.heap.size w (w.alloc (.cells #[.int .i64 3, .int .u32 (src : Int), .int .u32 (about : Int), .slice At tups.length ct, .slice Aa abouts.length ca, .slice An nums.length cn, .int .u64 (rate : Int), .int .i64 ty, .int .i64 count, .slice Ab body.length cb] 33)) := (Below.refl _ w).alloc (Nat.le_refl _) _
  have hZ : Blk (w.alloc (.cells #[.int .i64 3, .int .u32 (src : Int), .int .u32 (about : Int), .slice At tups.length ct, .slice Aa abouts.length ca, .slice An nums.length cn, .int .u64 (rate : Int), .int .i64 ty, .int .i64 count, .slice Ab body.length cb] 33)) w.heap.size 33 #[.int .i64 3, .int .u32 (src : Int), .int .u32 (about : Int), .slice At tups.length ct, .slice Aa abouts.length ca, .slice An nums.length cn, .int .u64 (rate : Int), .int .i64 ty, .int .i64 count, .slice Ab body.length cb] := Blk.new _ _ _
  have hsz : (w.alloc (.cells #[.int .i64 3, .int .u32 (src : Int), .int .u32 (about : Int), .slice At tups.length ct, .slice Aa abouts.length ca, .slice An nums.length cn, .int .u64 (rate : Int), .int .i64 ty, .int .i64 count, .slice Ab body.length cb] 33)).heap.size = w.heap.size + 1 := by simp
  simp only [Rv.val, Rv.cells]
  clear t1 t2 t3 t4 h1 h4 h5 h6 h7 h8 h9 h10
  go_enter Try.func61, Try.ntmps61
  go_upto_region 24 with (fail)
  generalize (w.alloc (.cells #[.int .i64 3, .int .u32 (src : Int), .int .u32 (about : Int), .slice At tups.length ct, .slice Aa abouts.length ca, .slice An nums.length cn, .int .u64 (rate : Int), .int .i64 ty, .int .i64 count, .slice Ab body.length cb] 33)) = V at hb hZ hsz  ⊢
  obtain ⟨y0, y1, y2, y3, y4, y5, y6, y7, y8, y9⟩ := blk10 hZ
  have HS := Lib.hid hsz
  have hlt : w.heap.size < V.heap.size := by omega
  clear hsz
  have b2 : Below V.heap.size V (V.alloc (.cells #[.int .u32 (src : Int), .int .u32 (about : Int)] 27)) := (Below.refl _ V).alloc (Nat.le_refl _) _
  have r2 := lit2_r32 src about (src : Int) (about : Int) rfl rfl h2 h3 V V.heap.size rfl
  go_wp2_with fail
  go_ret
  exact ⟨_, _, rfl, r2, hb.trans (b2.mono hb.size)⟩
set_option maxHeartbeats 4000000 in
theorem words_4 (x : Rv) (w : World) (hx : IsR w w.heap.size x) (hk : x.r.kind = 4) (hl0 : x.r.abouts.length = x.r.nums.length) (hle0 : x.r.abouts.length ≤ 16) (hnn0 : ∀ n ∈ x.r.nums, 0 ≤ n ∧ n ≤ 255) : Calls Try.prog 61 #[x.val] w (WordsOut w x.r.ws) := by
  have hws : x.r.ws = x.r.src :: 0 :: (x.r.abouts.zip x.r.nums).flatMap (fun x => [x.1, x.2.toNat * 16777216]) := by unfold Rep.ws; rw [hk]; rfl
  rw [hws]
  clear hws
  obtain ⟨⟨kind, src, about, tups, abouts, nums, rate, ty, count, body⟩, At, ct, Aa, ca, An, cn, Ab, cb⟩ := x
  obtain ⟨t1, t2, t3, t4, kinds⟩ := hx
  obtain ⟨h1, h2, h3, h4, h5, h6, h7, h8, h9, h10⟩ := kinds
  simp only at hk h1 h2 h3 h4 h5 h6 h7 h8 h9 h10 t1 t2 t3 t4
  subst hk
  have hb : Below w.heap.size w (w.alloc (.cells #[.int .i64 4, .int .u32 (src : Int), .int .u32 (about : Int), .slice At tups.length ct, .slice Aa abouts.length ca, .slice An nums.length cn, .int .u64 (rate : Int), .int .i64 ty, .int .i64 count, .slice Ab body.length cb] 33)) := (Below.refl _ w).alloc (Nat.le_refl _) _
  have hZ : Blk (w.alloc (.cells #[.int .i64 4, .int .u32 (src : Int), .int .u32 (about : Int), .slice At tups.length ct, .slice Aa abouts.length ca, .slice An nums.length cn, .int .u64 (rate : Int), .int .i64 ty, .int .i64 count, .slice Ab body.length cb] 33)) w.heap.size 33 #[.int .i64 4, .int .u32 (src : Int), .int .u32 (about : Int), .slice At tups.length ct, .slice Aa abouts.length ca, .slice An nums.length cn, .int .u64 (rate : Int), .int .i64 ty, .int .i64 count, .slice Ab body.length cb] := Blk.new _ _ _
  have hsz : (w.alloc (.cells #[.int .i64 4, .int .u32 (src : Int), .int .u32 (about : Int), .slice At tups.length ct, .slice Aa abouts.length ca, .slice An nums.length cn, .int .u64 (rate : Int), .int .i64 ty, .int .i64 count, .slice Ab body.length cb] 33)).heap.size = w.heap.size + 1 := by simp
  simp only [Rv.val, Rv.cells]
  have hl : abouts.length = nums.length := hl0
  have hle : abouts.length ≤ 16 := hle0
  have hnn : ∀ n ∈ nums, 0 ≤ n ∧ n ≤ 255 := hnn0
  clear hl0 hle0 hnn0
  have HLN := Lib.hid hl
  have t2 := t2.on hb
  have t3 := t3.on hb
  clear t1 t4 h3 h4 h5 h6 h7 h8 h9 h10 hl
  go_enter Try.func61, Try.ntmps61
  go_upto_region 13 with (fail)
  generalize (w.alloc (.cells #[.int .i64 4, .int .u32 (src : Int), .int .u32 (about : Int), .slice At tups.length ct, .slice Aa abouts.length ca, .slice An nums.length cn, .int .u64 (rate : Int), .int .i64 ty, .int .i64 count, .slice Ab body.length cb] 33)) = V at hb hZ hsz t2 t3 ⊢
  obtain ⟨y0, y1, y2, y3, y4, y5, y6, y7, y8, y9⟩ := blk10 hZ
  have HS := Lib.hid hsz
  have hlt : w.heap.size < V.heap.size := by omega
  clear hsz
  clear y0 y2 y3 y6 y7 y8 y9
  have o1 := own32_lits V V.heap.size [src, 0] #[.int .u32 (src : Int), .int .u32 0] 2 rfl rfl (by omega) (Nat.le_refl _)
  have b2 : Below V.heap.size V (V.alloc (.cells #[.int .u32 (src : Int), .int .u32 0] 27)) := (Below.refl _ V).alloc (Nat.le_refl _) _
  have z4 := (b2.cell (p := ⟨w.heap.size, 4, none⟩) hlt).trans y4
  go_upto_region 14 with (fail)
  generalize (V.alloc (.cells #[.int .u32 (src : Int), .int .u32 0] 27)) = V2 at o1 b2 z4 ⊢
  go_wp2_with fail
  clear z4 y1 y4
  go_loopw [8, 60] (fun v iv wr => ∃ q : Nat, q ≤ abouts.length ∧ iv = .int .i64 (q : Int) ∧ Own32 wr V.heap.size v ([src, 0] ++ ((abouts.zip nums).take q).flatMap (fun x => [x.1, x.2.toNat * 16777216])) ∧ Below V.heap.size V wr) (fun _ iv _ => abouts.length - (intOf iv).toNat)
  case atStart => exact ⟨0, by omega, rfl, by simpa using o1, b2⟩
  case round =>
    obtain ⟨q, hq, rfl, ho, hbr⟩ := hrel
    clear o1 b2
    by_cases hql : q < abouts.length
    · have g3 : decide ((q : Int) < (abouts.length : Int)) = true := by simp; omega
      have g4 : (q : Int) < (abouts.length : Int) := by omega
      have g5 : (q : Int) < (nums.length : Int) := by have := HLN.out; omega
      have hqn : q < nums.length := by have := HLN.out; omega
      have htk := firw_take hql hqn
      have hxa := t2.2.2.1 _ (List.getElem_mem hql)
      have hxn := hnn _ (List.getElem_mem hqn)
      obtain ⟨b, off, rfl, hbl, k0⟩ := t2.at hql
      obtain ⟨b', off', rfl, hbl', k1⟩ := t3.at hqn
      have c0 := (hbr.cell (p := ⟨b, off + q, none⟩) hbl).trans k0
      have c1 := (hbr.cell (p := ⟨b', off' + q, none⟩) hbl').trans k1
      have c5 := (hbr.cell (p := ⟨w.heap.size, 5, none⟩) hlt).trans y5
      have hs1 := hbr.size
      have hlen : ([src, 0] ++ ((abouts.zip nums).take q).flatMap (fun x => [x.1, x.2.toNat * 16777216])).length ≤ 100 := by
        rw [List.length_append, flat_length (k := 2) (fun _ => rfl), List.length_take]
        simp
        omega
      have htk : ([src, 0] ++ ((abouts.zip nums).take q).flatMap (fun x => [x.1, x.2.toNat * 16777216])) ++ [abouts[q], nums[q].toNat * 16777216] = [src, 0] ++ ((abouts.zip nums).take (q + 1)).flatMap (fun x => [x.1, x.2.toNat * 16777216]) := by rw [List.append_assoc, htk]
      generalize [src, 0] ++ ((abouts.zip nums).take q).flatMap (fun x => [x.1, x.2.toNat * 16777216]) = L at ho hlen htk
      have htk := Lib.hid htk
      clear k0 k1 t2 t3 hnn y5
      generalize abouts[q] = a at c0 htk hxa
      generalize nums[q] = n at c1 htk hxn
      obtain ⟨n, rfl⟩ : ∃ m : Nat, n = (m : Int) := ⟨n.toNat, by omega⟩
      rw [show ((n : Int)).toNat = n from rfl] at htk
      have b5 : Below wr.heap.size wr (wr.alloc (.cells #[.int .u32 (a : Int), .int .u32 ((n : Int) * 16777216)] 27)) := (Below.refl _ wr).alloc (Nat.le_refl _) _
      have ho5 := own32_kept ho b5
      have r5 := lit2_r32 a (n * 16777216) (a : Int) ((n : Int) * 16777216) rfl (by simp) hxa (by omega) wr wr.heap.size rfl
      have b6 := hbr.trans (b5.mono hs1)
      have hs6 := b6.size
      have HBB := Lib.hid (show L.length + 2 ≤ 1000000 by omega)
      clear ho hlen b5 hbr
      go_wp2_with (at_builtin; ((with_reducible refine wpList_append32 rfl (.tmp 65) (.tmp 74) rfl rfl V.heap.size _ L (by with_unfolding_all rfl) ho5 _ (some ⟨wr.heap.size, 0, none⟩) 2 2 [a, n * 16777216] (by with_unfolding_all rfl) r5 HBB.out hs6 ?_); rintro v7 w7 ⟨o7, g7⟩))
      have b7 := below_grown b6 hs6 g7 (fun k hk => (World.ownsRow.lt ho5 k hk).1)
      clear ho5 r5 b6 hs6 g7 c0 c1 c5
      go_wp2_with fail
      go_roundw
      case rel => exact ⟨q + 1, by omega, by go_num, by rw [← htk.out]; exact o7, b7⟩
      case measure => simp [intOf]; omega
    · have g3 : decide ((q : Int) < (abouts.length : Int)) = false := by simp; omega
      rw [List.take_of_length_le (by simp; omega)] at ho
      have hsm : ∀ z ∈ [src, 0] ++ (abouts.zip nums).flatMap (fun x => [x.1, x.2.toNat * 16777216]), z < 4294967296 := by
        intro z hz
        rcases List.mem_append.1 hz with hz | hz
        · simp at hz; omega
        · obtain ⟨p, hp, hz⟩ := List.mem_flatMap.1 hz
          have i1 := t2.2.2.1 _ (List.of_mem_zip (a := p.1) (b := p.2) hp).1
          have i2 := hnn _ (List.of_mem_zip (a := p.1) (b := p.2) hp).2
          simp at hz
          omega
      obtain ⟨A1, c1, rfl, r1⟩ := ho.r32 hsm
      have b7 := hb.trans (hbr.mono hb.size)
      generalize hT : [src, 0] ++ (abouts.zip nums).flatMap (fun x => [x.1, x.2.toNat * 16777216]) = T at r1
      have HT := Lib.hid hT
      clear t2 t3 hnn hsm hbr hT ho y5
      go_wp2_with fail
      go_ret
      refine ⟨A1, c1, ?_, ?_, b7⟩
      · rw [show src :: 0 :: (abouts.zip nums).flatMap (fun x => [x.1, x.2.toNat * 16777216]) = T from HT.out]; rfl
      · rw [show src :: 0 :: (abouts.zip nums).flatMap (fun x => [x.1, x.2.toNat * 16777216]) = T from HT.out]; exact r1
set_option maxHeartbeats 4000000 in
theorem words_5 (x : Rv) (w : World) (hx : IsR w w.heap.size x) (hk : x.r.kind = 5) (hle : x.r.abouts.length ≤ 16) : Calls Try.prog 61 #[x.val] w (WordsOut w x.r.ws) := by
  have hws : x.r.ws = [x.r.src, 0, 1380273474, rembW x.r.abouts.length x.r.rate] ++ x.r.abouts := by unfold Rep.ws; rw [hk]; rfl
  rw [hws]
  clear hws
  obtain ⟨⟨kind, src, about, tups, abouts, nums, rate, ty, count, body⟩, At, ct, Aa, ca, An, cn, Ab, cb⟩ := x
  obtain ⟨t1, t2, t3, t4, kinds⟩ := hx
  obtain ⟨h1, h2, h3, h4, h5, h6, h7, h8, h9, h10⟩ := kinds
  simp only at hk h1 h2 h3 h4 h5 h6 h7 h8 h9 h10 t1 t2 t3 t4
  subst hk
  have hb : Below w.heap.size w (w.alloc (.cells #[.int .i64 5, .int .u32 (src : Int), .int .u32 (about : Int), .slice At tups.length ct, .slice Aa abouts.length ca, .slice An nums.length cn, .int .u64 (rate : Int), .int .i64 ty, .int .i64 count, .slice Ab body.length cb] 33)) := (Below.refl _ w).alloc (Nat.le_refl _) _
  have hZ : Blk (w.alloc (.cells #[.int .i64 5, .int .u32 (src : Int), .int .u32 (about : Int), .slice At tups.length ct, .slice Aa abouts.length ca, .slice An nums.length cn, .int .u64 (rate : Int), .int .i64 ty, .int .i64 count, .slice Ab body.length cb] 33)) w.heap.size 33 #[.int .i64 5, .int .u32 (src : Int), .int .u32 (about : Int), .slice At tups.length ct, .slice Aa abouts.length ca, .slice An nums.length cn, .int .u64 (rate : Int), .int .i64 ty, .int .i64 count, .slice Ab body.length cb] := Blk.new _ _ _
  have hsz : (w.alloc (.cells #[.int .i64 5, .int .u32 (src : Int), .int .u32 (about : Int), .slice At tups.length ct, .slice Aa abouts.length ca, .slice An nums.length cn, .int .u64 (rate : Int), .int .i64 ty, .int .i64 count, .slice Ab body.length cb] 33)).heap.size = w.heap.size + 1 := by simp
  simp only [Rv.val, Rv.cells]
  have hle : abouts.length ≤ 16 := hle
  have t2 := t2.on hb
  have hle' : (abouts.length : Int) ≤ 16 := by omega
  obtain ⟨or, wlt, e63, m18⟩ := remb_or hle h4
  have hpk : ∀ W, Calls Try.prog 80 #[.int .u64 (rate : Int), .int .i64 18] W (AnsS (.tuple #[.int .i64 (pkE rate 18 : Int), .int .u32 (pkM rate 18 : Int)]) W) := fun W => rate_pack_s rate 18 W h4
  have OR := Lib.hid or
  clear t1 t3 t4 h3 h5 h6 h7 h8 h9 h10 or h4
  generalize hwd : rembW abouts.length rate = wd at OR wlt
  have HWD := Lib.hid hwd
  clear hwd
  generalize pkE rate 18 = E at *
  generalize pkM rate 18 = M at *
  go_enter Try.func61, Try.ntmps61
  go_upto_region 21 with (fail)
  generalize (w.alloc (.cells #[.int .i64 5, .int .u32 (src : Int), .int .u32 (about : Int), .slice At tups.length ct, .slice Aa abouts.length ca, .slice An nums.length cn, .int .u64 (rate : Int), .int .i64 ty, .int .i64 count, .slice Ab body.length cb] 33)) = V at hb hZ hsz t2 ⊢
  obtain ⟨y0, y1, y2, y3, y4, y5, y6, y7, y8, y9⟩ := blk10 hZ
  have HS := Lib.hid hsz
  have hlt : w.heap.size < V.heap.size := by omega
  clear hsz
  clear y0 y2 y3 y5 y7 y8 y9
  go_wp2_with fail
  ((with_reducible refine (hpk _).mono ?_); rintro e w3 ⟨rfl, rfl⟩)
  clear hpk y6
  have t2 : R32 (V.alloc (.cells #[.int .u32 (src : Int), .int .u32 0, .int .u32 1380273474, .int .u32 (bits .or .u32 (bits .or .u32 ((abouts.length : Int) * 16777216) ((E : Int) * 262144)) (M : Int))] 27)) V.heap.size Aa abouts.length ca abouts := t2.below ((Below.refl _ V).alloc (Nat.le_refl _) _)
  have ow : Own32 (V.alloc (.cells #[.int .u32 (src : Int), .int .u32 0, .int .u32 1380273474, .int .u32 (bits .or .u32 (bits .or .u32 ((abouts.length : Int) * 16777216) ((E : Int) * 262144)) (M : Int))] 27)) V.heap.size (.slice (some ⟨V.heap.size, 0, none⟩) 4 4) [src, 0, 1380273474, wd] := own32_lits V V.heap.size [src, 0, 1380273474, wd] _ 4 rfl (by rw [OR.out]; rfl) (by omega) (Nat.le_refl _)
  have b2 : Below V.heap.size V (V.alloc (.cells #[.int .u32 (src : Int), .int .u32 0, .int .u32 1380273474, .int .u32 (bits .or .u32 (bits .or .u32 ((abouts.length : Int) * 16777216) ((E : Int) * 262144)) (M : Int))] 27)) := (Below.refl _ V).alloc (Nat.le_refl _) _
  have z4 := (b2.cell (p := ⟨w.heap.size, 4, none⟩) hlt).trans y4
  have hl5 : [src, 0, 1380273474, wd].length + abouts.length ≤ 1000000 := by simp; omega
  have HL5 := Lib.hid hl5
  have hwl : ∀ x ∈ [src, 0, 1380273474, wd] ++ abouts, x < 4294967296 := by
    intro z hz
    rcases List.mem_append.1 hz with hz | hz
    · simp at hz; omega
    · exact t2.2.2.1 z hz
  have HWL := Lib.hid hwl
  have hs2 := b2.size
  clear hl5 hwl
  go_wp2_with (at_builtin; ((with_reducible refine wpList_append32 rfl (.tmp 100) (.tmp 102) rfl rfl V.heap.size _ [src, 0, 1380273474, wd] (by with_unfolding_all rfl) ow V.heap.size Aa _ ca _ (by with_unfolding_all rfl) t2 HL5.out hs2 ?_); rintro v5 w5 ⟨o5, g5⟩))
  have b5 := below_grown b2 hs2 g5 (fun k hk => (World.ownsRow.lt ow k hk).1)
  have b7 := hb.trans (b5.mono hb.size)
  obtain ⟨A1, c1, rfl, r1⟩ := o5.r32 HWL.out
  generalize hT : [src, 0, 1380273474, wd] ++ abouts = T at r1
  have HT := Lib.hid hT
  clear t2 ow b2 z4 HL5 HWL hs2 o5 g5 b5 hT y1 y4
  go_wp2_with fail
  go_ret
  refine ⟨A1, c1, ?_, ?_, b7⟩
  · rw [show src :: 0 :: 1380273474 :: wd :: abouts = T from HT.out]; rfl
  · rw [show src :: 0 :: 1380273474 :: wd :: abouts = T from HT.out]; exact r1
end Go.Proofs.Ytnchgmemajmkjaa
