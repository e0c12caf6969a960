/- The project's table of deadlines: Next. -/
import Derived.Test.YtkhhaokelhmikaaAlD
namespace Go.Proofs.Ytkhhaokelhmikaa
open Go.RowKit Go.Maps Go.Sort Go.Proofs
set_option linter.unusedVariables false
set_option linter.unusedSimpArgs false
set_option maxRecDepth 20000

/-- What stands while the map is looked through; a: the block of the first so far, r: the iterator's. -/
structure NextW (w : World) (G Mb a r : Nat) (L : List Du) (f : Bool) (x : Du) (left : Lit → Bool) (cnt : Nat) (W : World) : Prop where
  tab : Blk W G 49 #[.map (some Mb)]
  rng : ∃ D, W.ranges Try.prog 23 (plainElem Try.prog 2) Mb r L.length D left cnt ∧ MapR L D
  nxt : NextL L left f x
  fst : Blk W a 35 #[.int .i64 x.t, .int .u64 (x.k : Int)]
  res : Blk W w.heap.size 35 #[.int .i64 0, .int .u64 0]
  below : Below w.heap.size w W
  size : w.heap.size + 3 ≤ W.heap.size
theorem below_grow (w : World) (q : Nat) (os : Array Obj) : Below w.heap.size w (grow (w.drewN q) os) := ⟨rfl, rfl, rfl, by simp [grow], fun k hk => heap_grow_old _ _ (by simpa using hk)⟩
theorem Only.grown {g : Nat} {w w' : World} (h : Only g w w') : w.grownBy w' (some g) := ⟨h.os, h.tape, h.output, h.size, fun k hk hn => h.block k hk fun e => hn (by rw [e])⟩
theorem only_set2 (a : Nat) (w : World) (u v : Value) : Only a w ((w.setCell ⟨a, 0, none⟩ u).setCell ⟨a, 1, none⟩ v) := (Only.set a 0 w u).trans (Only.set a 1 _ v)
theorem blk_set2 {a : Nat} {w : World} {t : TypeId} {p q : Value} (h : Blk w a t #[p, q]) (u v : Value) : Blk ((w.setCell ⟨a, 0, none⟩ u).setCell ⟨a, 1, none⟩ v) a t #[u, v] := by
  have := (h.set_ 0 u).set_ 1 v
  simpa using this
/-- A step is done: the first so far is what it now is. -/
theorem nextW_step {w w1 W' : World} {G Mb a r cnt : Nat} {L : List Du} {D : DataW Unit} {f : Bool} {x : Du} {left : Lit → Bool} (t1 : Blk w1 G 49 #[.map (some Mb)]) (z1 : Blk w1 w.heap.size 35 #[.int .i64 0, .int .u64 0]) (b1 : Below w.heap.size w w1) (sz1 : w.heap.size + 3 ≤ w1.heap.size)
    (hrg : w1.ranges Try.prog 23 (plainElem Try.prog 2) Mb r L.length D left cnt) (hm : MapR L D) (hg : G < w.heap.size) (hmb : Mb < w.heap.size) (ha : a = w.heap.size + 1) (hr : r = w.heap.size + 2) (ho : Only a w1 W') (hf : Blk W' a 35 #[.int .i64 x.t, .int .u64 (x.k : Int)]) (hn : NextL L left f x) : NextW w G Mb a r L f x left cnt W' :=
  ⟨t1.onlyS (OnlyS.one (S := fun k => k = a) ho rfl) (by omega), ⟨D, hrg.kept ho.grown (fun e => by injection e with e; omega) (fun e => by injection e with e; omega), hm⟩, hn, hf, z1.onlyS (OnlyS.one (S := fun k => k = a) ho rfl) (by omega), b1.trans (ho.below (by omega) b1.size), Nat.le_trans sz1 ho.size⟩
set_option maxHeartbeats 4000000 in
theorem tb_next {w : World} {G : Nat} {L : List Du} {S : Nat → Prop} (h : TbAt w G L S) (hk : Keys L) (hi : InD L) (hl : L.length ≤ 100000) : Calls Try.prog 17 #[.pointer (some ⟨G, 0, none⟩)] w (TbOut G L S (.tuple #[(firstD L).val, .bool (decide (0 < L.length))]) w) := by
  obtain ⟨Mb, D, h1, h2, h3, h4⟩ := h
  have HF : Hid (DueF w G Mb w.heap.size L 0) := Lib.hid ⟨Nat.le_refl _, mapOf_ne h1 h2, h1.lt, h2.lt, hk, hi, hl⟩
  have HS := Lib.hid h4
  have hB := belowA w (.cells #[.int .i64 0, .int .u64 0] 35)
  have hB2 := belowA (w.alloc (.cells #[.int .i64 0, .int .u64 0] 35)) (.cells #[.int .i64 0, .int .u64 0] 35)
  have hsz : (w.alloc (.cells #[.int .i64 0, .int .u64 0] 35)).heap.size = w.heap.size + 1 := by simp
  have hBB := hB.trans (hB2.mono (by omega))
  have r1 : Blk (w.alloc (.cells #[.int .i64 0, .int .u64 0] 35)) w.heap.size 35 #[.int .i64 0, .int .u64 0] := Blk.new _ _ _
  have r2 := r1.alloc (.cells #[.int .i64 0, .int .u64 0] 35)
  have r3 : Blk ((w.alloc (.cells #[.int .i64 0, .int .u64 0] 35)).alloc (.cells #[.int .i64 0, .int .u64 0] 35)) (w.heap.size + 1) 35 #[.int .i64 0, .int .u64 0] := by rw [← hsz]; exact Blk.new _ _ _
  have hs2 : ((w.alloc (.cells #[.int .i64 0, .int .u64 0] 35)).alloc (.cells #[.int .i64 0, .int .u64 0] 35)).heap.size = w.heap.size + 2 := by simp
  have t2 := h1.below hBB h1.lt
  have m2 := ownsMap_below h2 hBB
  have HW : Hid (Below w.heap.size w ((w.alloc (.cells #[.int .i64 0, .int .u64 0] 35)).alloc (.cells #[.int .i64 0, .int .u64 0] 35)) ∧ _ ∧ _ ∧ _ ∧ _ ∧ _ ∧ MapR L D) := Lib.hid ⟨hBB, r2, r3, hs2, t2, m2, h3⟩
  clear h1 h2 h3 h4 hk hi hl hB hB2 hsz hBB r1 r2 r3 hs2 t2 m2
  go_enter Try.func17, Try.ntmps17
  go_upto_region 3 with (fail)
  generalize (w.alloc (.cells #[.int .i64 0, .int .u64 0] 35)).alloc (.cells #[.int .i64 0, .int .u64 0] 35) = W at HW ⊢
  have c0 : W.cell? ⟨G, 0, none⟩ = some (.map (some Mb)) := HW.out.2.2.2.2.1.cell 0
  go_wp2_with (at_range; refine wpList_range_own _ rfl _ 39 rfl 23 2 lawU Try.underlying39 _ Mb L.length D rfl HW.out.2.2.2.2.2.1 ?_; intro w0 hrg0 hg0 hs0)
  obtain ⟨r, hr⟩ : ∃ r, r = W.heap.size := ⟨_, rfl⟩
  have HRR : Hid (r = w.heap.size + 2) := Lib.hid (by rw [hr]; exact HW.out.2.2.2.1)
  obtain ⟨a, ha⟩ : ∃ a, a = w.heap.size + 1 := ⟨_, rfl⟩
  rw [← hr] at hrg0 ⊢
  rw [← ha]
  have H1 : Hid (NextW w G Mb a r L false zD (Maps.has D) (Maps.size D) w0) := Lib.hid (by
    obtain ⟨hB, r2, r3, hs2, t2, m2, h3⟩ := HW.out
    have hall : ∀ d ∈ L, Maps.has D (keyL d.k) = true := fun d hd => by
      rw [h3.has]
      exact hasK_iff.2 ⟨d, hd, rfl⟩
    have ho := grown_onlyS hg0
    have hb0 : Below W.heap.size W w0 := ⟨hg0.os, hg0.tape, hg0.output, hg0.size, fun k hk => hg0.block k hk (by simp)⟩
    subst ha
    exact ⟨t2.onlyS ho (fun e => by cases e), ⟨D, hrg0, h3⟩, NextL.start hall, r3.onlyS ho (fun e => by cases e), r2.onlyS ho (fun e => by cases e), hB.trans (hb0.mono (by omega)), by omega⟩)
  have HA := Lib.hid ha
  clear hr ha hrg0 hg0 hs0 c0 HW
  go_frame
  go_loopw [5] (fun v wr => ∃ f : Bool, v = .bool f ∧ Hid (∃ x left cnt, NextW w G Mb a r L f x left cnt wr)) (fun _ wr => wr.rangeLeft Mb r)
  case atStart => exact ⟨false, rfl, Lib.hid ⟨_, _, _, H1.out⟩⟩
  case round =>
    obtain ⟨f, rfl, HR⟩ := hrel
    clear H1
    obtain ⟨⟨xt, xk⟩, left, cnt, hd⟩ := HR.out
    obtain ⟨D', hrg, hmap⟩ := hd.rng
    have HD := Lib.hid hd
    have HM := Lib.hid hmap
    have HG := Lib.hid hrg
    clear hd hrg hmap HR
    go_wp2_with (at_next; refine wpList_next_ranges_ii _ rfl _ rfl 23 2 .u64 .i64 lawU Try.underlying23 Try.underlying2 Mb r L.length _ _ _ rfl HG.out ?_ ?_)
    · intro _ hl0
      obtain ⟨hx, hf⟩ := HD.out.nxt.done hl0
      have a0 : wr.cell? ⟨a, 0, none⟩ = some (.int .i64 xt) := HD.out.fst.cell 0
      have a1 : wr.cell? ⟨a, 1, none⟩ = some (.int .u64 (xk : Int)) := HD.out.fst.cell 1
      have z0 : wr.cell? ⟨w.heap.size, 0, none⟩ = some (.int .i64 0) := HD.out.res.cell 0
      have z1 : wr.cell? ⟨w.heap.size, 1, none⟩ = some (.int .u64 0) := HD.out.res.cell 1
      have f0 := HD.out.res.frozen 0
      have f1 := HD.out.res.frozen 1
      have HL0 := Lib.hid (⟨hx, hf⟩ : _ ∧ _)
      clear hl0 hx hf
      go_wp2_with fail
      have hF := blk_set2 HD.out.res (.int .i64 xt) (.int .u64 (xk : Int))
      have hO := only_set2 w.heap.size wr (.int .i64 xt) (.int .u64 (xk : Int))
      have F := HF.out
      have hFg := F.g
      have hFm := F.m
      have hm := HM.out
      have mp := ownsMap_tight (HG.out.owns.kept hO.grown (fun e => by injection e with e; omega))
      rw [hm.size] at mp
      have ht := HD.out.tab.onlyS (OnlyS.one (S := fun k => k = w.heap.size) hO rfl) (by omega)
      have hb := HD.out.below.trans (hO.below (Nat.le_refl _) HD.out.below.size)
      obtain ⟨hx, hf⟩ := HL0.out
      rw [← hx, ← hf]
      generalize (wr.setCell ⟨w.heap.size, 0, none⟩ (.int .i64 xt)).setCell ⟨w.heap.size, 1, none⟩ (.int .u64 (xk : Int)) = WF at hF mp ht hb ⊢
      have e0 := hF.cell 0
      have e1 := hF.cell 1
      refine bodyPost_ret (v := .tuple #[.agg #[.int .i64 xt, .int .u64 (xk : Int)], .bool f]) (by simp [results, Try.results17, go_sem, e0, e1]; try rfl) rfl ?_
      exact ⟨rfl, S, ⟨Mb, D', ht, mp, hm, HS.out⟩, fun k hk => .inl hk, OnlyS.of hb⟩
    · intro x c w1 cnt1 hwx hwc hlx hat hrg1 hlt hg1 hs1 hen
      have h0 : 0 ≤ x := by
        simp [Lit.wf, IntKind.min, IntKind.max, IntKind.signed, IntKind.bits] at hwx
        omega
      obtain ⟨k, rfl⟩ := Int.eq_ofNat_of_zero_le h0
      have hin := entry_of HM.out HF.out.keys (ranges_has HG.out lawU hlx) hat
      have ho := grown_onlyS hg1
      have hra := HRR.out
      have haa := HA.out
      have F := HF.out
      have hFg := F.g
      have hFm := F.m
      have t1 := HD.out.tab.onlyS ho (fun e => by injection e with e; omega)
      have s1 := HD.out.fst.onlyS ho (fun e => by injection e with e; omega)
      have z1 := HD.out.res.onlyS ho (fun e => by injection e with e; omega)
      have b1 : Below w.heap.size w w1 := HD.out.below.trans (ho.below (fun k e => by injection e with e; omega) HD.out.below.size)
      have sz1 : w.heap.size + 3 ≤ w1.heap.size := by have := HD.out.size; omega
      have H2 := Lib.hid (⟨t1, s1, z1, b1, sz1, hin, hlx, hlt, hrg1⟩ : _ ∧ _ ∧ _ ∧ _ ∧ _ ∧ _ ∧ _ ∧ _ ∧ _)
      have hw1 : a < w1.heap.size := by omega
      have q0 : w1.cell? ⟨a, 0, none⟩ = some (.int .i64 xt) := s1.cell 0
      have q1 : w1.cell? ⟨a, 1, none⟩ = some (.int .u64 (xk : Int)) := s1.cell 1
      have f0 := s1.frozen 0
      have f1 := s1.frozen 1
      clear h0 hwx hwc hlx hat hrg1 hlt hg1 hs1 hin ho hra haa F hFg hFm t1 s1 z1 b1 sz1
      cases f
      · go_wp2_with fail
        obtain ⟨t1, s1, z1, b1, sz1, hin, hlx, hlt, hrg1⟩ := H2.out
        have F := HF.out
        have ho := (only_set2 a w1 (.int .i64 c) (.int .u64 (k : Int))).trans (Only.of (g := a) (belowA _ (.cells #[.int .i64 c, .int .u64 (k : Int)] 35)))
        have hN := nextW_step t1 z1 b1 sz1 hrg1 HM.out F.g F.m HA.out HRR.out ho (x := ⟨c, k⟩) (f := true) ((blk_set2 s1 (.int .i64 c) (.int .u64 (k : Int))).alloc _) (HD.out.nxt.take F.keys hin (.inl rfl))
        refine ⟨⟨true, rfl, Lib.hid ⟨_, _, _, hN⟩⟩, ?_⟩
        obtain ⟨_, hr3, _⟩ := hN.rng
        rw [hr3.left_eq, HG.out.left_eq]
        exact hlt
      · go_wp2_with fail
        have hcc := compare_any ⟨c, k⟩ ⟨xt, xk⟩ (w1.alloc (.cells #[.int .i64 c, .int .u64 (k : Int)] 35))
        have hlt0 : decide (cmpD ⟨c, k⟩ ⟨xt, xk⟩ < 0) = ltB ⟨c, k⟩ ⟨xt, xk⟩ := cmpD_lt _ _
        obtain ⟨b, hb⟩ : ∃ b, b = ltB ⟨c, k⟩ ⟨xt, xk⟩ := ⟨_, rfl⟩
        have HB := Lib.hid hb
        rw [← hb] at hlt0
        clear hb
        generalize cmpD ⟨c, k⟩ ⟨xt, xk⟩ = cv at hcc hlt0
        ((with_reducible refine hcc.mono ?_); rintro e w3 ⟨rfl, q, os, hw3⟩)
        have H3 : Hid (Below w1.heap.size w1 w3 ∧ Blk w3 w1.heap.size 35 #[.int .i64 c, .int .u64 (k : Int)]) := Lib.hid (by
          have b3 := below_grow (w1.alloc (.cells #[.int .i64 c, .int .u64 (k : Int)] 35)) q os
          rw [← hw3] at b3
          have b2 := belowA w1 (.cells #[.int .i64 c, .int .u64 (k : Int)] 35)
          have n2 := Blk.new w1 35 #[.int .i64 c, .int .u64 (k : Int)]
          exact ⟨b2.trans (b3.mono b2.size), n2.below b3 n2.lt⟩)
        have d0 : w3.cell? ⟨w1.heap.size, 0, none⟩ = some (.int .i64 c) := H3.out.2.cell 0
        have d1 : w3.cell? ⟨w1.heap.size, 1, none⟩ = some (.int .u64 (k : Int)) := H3.out.2.cell 1
        have sA := H2.out.2.1.below H3.out.1 H2.out.2.1.lt
        have f0 := sA.frozen 0
        have f1 := sA.frozen 1
        have hw3' : a < w3.heap.size := sA.lt
        have p0 : w3.cell? ⟨a, 0, none⟩ = some (.int .i64 xt) := sA.cell 0
        have p1 : w3.cell? ⟨a, 1, none⟩ = some (.int .u64 (xk : Int)) := sA.cell 1
        have HSA := Lib.hid sA
        clear hcc hw3 q0 q1 sA
        cases b
        · have hcv : ¬ cv < 0 := by simpa using hlt0
          clear hlt0
          go_wp2_with fail
          obtain ⟨t1, s1, z1, b1, sz1, hin, hlx, hlt, hrg1⟩ := H2.out
          have F := HF.out
          have hN := nextW_step t1 z1 b1 sz1 hrg1 HM.out F.g F.m HA.out HRR.out (Only.of (g := a) H3.out.1) (x := ⟨xt, xk⟩) (f := true) HSA.out (HD.out.nxt.pass F.keys hin HB.out.symm)
          refine ⟨⟨true, rfl, Lib.hid ⟨_, _, _, hN⟩⟩, ?_⟩
          obtain ⟨_, hr3, _⟩ := hN.rng
          rw [hr3.left_eq, HG.out.left_eq]
          exact hlt
        · have hcv : cv < 0 := by simpa using hlt0
          clear hlt0
          go_wp2_with fail
          obtain ⟨t1, s1, z1, b1, sz1, hin, hlx, hlt, hrg1⟩ := H2.out
          have F := HF.out
          have ho := (Only.of (g := a) H3.out.1).trans (only_set2 a w3 (.int .i64 c) (.int .u64 (k : Int)))
          have hN := nextW_step t1 z1 b1 sz1 hrg1 HM.out F.g F.m HA.out HRR.out ho (x := ⟨c, k⟩) (f := true) (blk_set2 HSA.out (.int .i64 c) (.int .u64 (k : Int))) (HD.out.nxt.take F.keys hin (.inr HB.out.symm))
          refine ⟨⟨true, rfl, Lib.hid ⟨_, _, _, hN⟩⟩, ?_⟩
          obtain ⟨_, hr3, _⟩ := hN.rng
          rw [hr3.left_eq, HG.out.left_eq]
          exact hlt
end Go.Proofs.Ytkhhaokelhmikaa
