/- Contract: the project's queue: Put. -/
import Derived.Test.YtdjopbhjfnakdaaPqJ
namespace Go.Proofs.Ytdjopbhjfnakdaa
open Go.RowKit
set_option linter.unusedVariables false
set_option linter.unusedSimpArgs false
set_option maxRecDepth 20000

/-- In the region that puts: nothing but the row's block turns. -/
def puF (T : Nat → Prop) (w0 : World) : Frame where
  I := fun W => OnlyS T w0 W
  Fr := fun a b => Below a.heap.size a b
  refl := fun w _ => Below.refl _ w
  trans := fun a b c h k => h.trans (k.mono h.size)
  drew := fun W h => ⟨h.trans (OnlyS.of (S := T) (belowDrewN W 1)) (fun i hi _ => hi), belowDrewN W 1⟩
def clQ (T : Nat → Prop) (w0 : World) (x : List UInt8) : ClF (puF T w0) := .pred (fun v W => ∃ d : Sl, v = encS d ∧ R8 W W.heap.size d.1 d.2.1 d.2.2 x ∧ ∀ k, bOf d = some k → w0.heap.size ≤ k) (fun v a b _ hf _ h => by
  obtain ⟨d, e, h1, h2⟩ := h
  exact ⟨d, e, h1.on hf, h2⟩)
def liQ (T : Nat → Prop) (w0 : World) (x : List UInt8) : ClF (puF T w0) := .pred (fun v W => ∃ (d : Sl) (g : Nat), v = .slice (some ⟨g, 0, none⟩) 1 1 ∧ w0.heap.size ≤ g ∧ Blk W g 29 #[encS d] ∧ R8 W W.heap.size d.1 d.2.1 d.2.2 x ∧ ∀ k, bOf d = some k → w0.heap.size ≤ k) (fun v a b _ hf _ h => by
  obtain ⟨d, g, e, h0, hb, h1, h2⟩ := h
  exact ⟨d, g, e, h0, (hf.block g hb.lt).trans hb, h1.on hf, h2⟩)
def roQ (T : Nat → Prop) (w0 : World) (v0 : Value) (ds : List Sl) (Q : Row8) : ClF (puF T w0) := .pred (fun v W => ∃ d : Sl, RowAt W v (ds ++ [d]) Q ∧ (∀ k, bOf d = some k → w0.heap.size ≤ k) ∧ (∀ k, v.ownBlock = some k → v0.ownBlock = some k ∨ w0.heap.size ≤ k)) (fun v a b _ hf _ h => by
  obtain ⟨d, h0, h1, h2⟩ := h
  exact ⟨d, h0.on hf, h1, h2⟩)
theorem clQ_of {T : Nat → Prop} {w0 : World} {x : List UInt8} {c : ClF (puF T w0)} {v : Value} {W : World} (h : c.holds v W) (e : c = clQ T w0 x) : ∃ d : Sl, v = encS d ∧ R8 W W.heap.size d.1 d.2.1 d.2.2 x ∧ ∀ k, bOf d = some k → w0.heap.size ≤ k := by subst e; exact h
theorem liQ_of {T : Nat → Prop} {w0 : World} {x : List UInt8} {c : ClF (puF T w0)} {v : Value} {W : World} (h : c.holds v W) (e : c = liQ T w0 x) : ∃ (d : Sl) (g : Nat), v = .slice (some ⟨g, 0, none⟩) 1 1 ∧ w0.heap.size ≤ g ∧ Blk W g 29 #[encS d] ∧ R8 W W.heap.size d.1 d.2.1 d.2.2 x ∧ ∀ k, bOf d = some k → w0.heap.size ≤ k := by subst e; exact h
theorem roQ_of {T : Nat → Prop} {w0 : World} {v0 : Value} {ds : List Sl} {Q : Row8} {c : ClF (puF T w0)} {v : Value} {W : World} (h : c.holds v W) (e : c = roQ T w0 v0 ds Q) : ∃ d : Sl, RowAt W v (ds ++ [d]) Q ∧ (∀ k, bOf d = some k → w0.heap.size ≤ k) ∧ (∀ k, v.ownBlock = some k → v0.ownBlock = some k ∨ w0.heap.size ≤ k) := by subst e; exact h
theorem run_appendB {w : World} (v : Value) (ds : List Sl) (hown : OwnB w 0 v ds) (g : Nat) (d : Sl) (hg : Blk w g 29 #[encS d]) (hb : ds.length ≤ 1000000) :
    ∃ v' w', (Builtin.append_ #[31, 31] 31 #[v, .slice (some ⟨g, 0, none⟩) 1 1]).run Try.prog w = .ok v' w' ∧ OwnB w' 0 v' (ds ++ [d]) ∧ w.grownBy w' v.ownBlock ∧ (v'.ownBlock = v.ownBlock ∨ v'.ownBlock = some w.heap.size) := by
  obtain ⟨v', w', h1, hA⟩ := run_appendX (w := w) 0 31 31 29 (.slice none 0 0) 1 24 Try.underlying31 bs_info rfl (by omega) v ds.length (ds.map encS) hown w.heap.size (some ⟨g, 0, none⟩) 1 1 [encS d] ⟨rfl, Nat.le_refl _, fun _ => ⟨g, 0, rfl, hg.lt, fun j u hj => by
    rw [Nat.zero_add, hg.cell j, ← hj]
    simp⟩⟩ (fun u hu => by rw [List.mem_singleton.1 hu]; rfl) (by simp only [maxLen]; omega) (by omega) (Nat.zero_le _)
  refine ⟨v', w', h1, ?_, hA.2.1, hA.2.2⟩
  have := hA.1
  unfold OwnB
  rw [List.length_append, List.map_append]
  exact this
theorem run_op_appendB {o : Oper} {ev : Operand → Value} {w w' : World} (s x : Operand) (ho : o.op = .call { callee := .builtin .append, args := #[s, x], argTypes := #[31, 31] }) (hty : o.type = 31) (v v' y : Value)
    (hs : ev s = v) (hx : ev x = y) (hrun : (Builtin.append_ #[31, 31] 31 #[v, y]).run Try.prog w = .ok v' w') : (execOp ev o).run Try.prog w = .ok (.value v') w' := by
  unfold execOp
  simp only [ho, hty, resolve, invoke, builtin, Sem.run_bind, Sem.run_pure, Result.andThen_ok, List.map_toArray, List.map_cons, List.map_nil, hs, hx, hrun]
section
variable {w : World} {G gb r u l : Nat} {Q : Row8} {cut : Nat} {S : Nat → Prop}
/-- Its counter turned. -/
theorem PqAt.cutUp (h : PqAt w G gb r u l Q cut S) : PqAt (w.setCell ⟨G, 2, none⟩ (.int .i64 ((cut + 1 : Nat) : Int))) G gb r u l Q (cut + 1) S ∧ OnlyS S w (w.setCell ⟨G, 2, none⟩ (.int .i64 ((cut + 1 : Nat) : Int))) := by
  obtain ⟨v, ds, h, h1, h2⟩ := h
  have ho := OnlyS.one (S := fun k => k = G) (Only.set G 2 w (.int .i64 ((cut + 1 : Nat) : Int))) rfl
  refine ⟨⟨v, ds, ⟨?_, h.bkt.onlyS ho (fun e : gb = G => h.ne e.symm), h.row.keep ho (fun k hk (e : k = G) => h.neG.1 (e ▸ hk)) (fun k hk (e : k = G) => h.neG.2 (e ▸ hk)), h.ne, h.neG, h.neb⟩, h1, fun k hk => Nat.lt_of_lt_of_le (h2 k hk) ho.size⟩, ho.more fun k (hk : k = G) => h1 k (.inl hk)⟩
  have := h.blk.set_ 2 (.int .i64 ((cut + 1 : Nat) : Int))
  simpa only [List.setIfInBounds_toArray, List.set_cons_succ, List.set_cons_zero] using this
theorem PqAt.on (h : PqAt w G gb r u l Q cut S) {w' : World} (hb : Below w.heap.size w w') : PqAt w' G gb r u l Q cut S := h.keep (OnlyS.of (S := fun _ => False) hb) (fun _ _ h => h)
set_option maxHeartbeats 4000000 in
theorem pq_put_no (h : PqAt w G gb r u l Q cut S) (hQ : Q.length ≤ 16) (hu : u ≤ 1099511627776) (hcut : cut ≤ 1000000) {A : Option Addr} {n8 c8 : Nat} {x : List UInt8} (hx : R8 w w.heap.size A n8 c8 x) (hn : n8 ≤ 100000) (hno : putB u Q x = false) : Calls Try.prog 9 #[.pointer (some ⟨G, 0, none⟩), .slice A n8 c8] w (PqOut G gb r u l (putQ u Q x) (putC u Q x cut) S (.bool (putB u Q x)) w) := by
  have e1 : putQ u Q x = Q := by unfold putQ; rw [hno]; rfl
  have e2 : putC u Q x cut = cut + 1 := by unfold putC; rw [hno]; rfl
  rw [e1, e2, hno]
  have hxl := hx.1
  have yc : IntKind.i64.wrap ((cut : Int) + 1) = ((cut + 1 : Nat) : Int) := by rw [IntKind.wrap_i64]; omega
  have HQ := Lib.hid h
  obtain ⟨v, ds, hs, _⟩ := h
  obtain ⟨⟨k0, k1, k2⟩, f1, f2⟩ := hs.cells
  obtain ⟨Av, cv, rfl, _⟩ := hs.row.own.val
  have C1 := Lib.hid (fun k => pq_cost (A := A) (c := c8) (w := w.drewN k) hn)
  have C2 := Lib.hid (fun k => pk_burst gb r u l (w.drewN k) (hs.bkt.on (belowDrewN w k)))
  have hl := hs.row.len
  obtain ⟨n, hn'⟩ : ∃ n, n = ds.length := ⟨_, rfl⟩
  rw [← hn'] at k1 hl
  have hp : ¬ (n < 16 ∧ n8 + 28 ≤ u) := by
    intro hh
    have : putB u Q x = true := by unfold putB costN; rw [decide_eq_true_eq, hxl, ← hl]; exact hh
    rw [this] at hno
    cases hno
  have hn16 : n ≤ 16 := by omega
  clear e1 e2 hno hx hs hxl hl hn' hQ
  obtain ⟨n28, hn28⟩ : ∃ n28, n28 = n8 + 28 := ⟨_, rfl⟩
  rw [← hn28] at C1 hp
  obtain ⟨c2, hc2⟩ : ∃ c2, c2 = cut + 1 := ⟨_, rfl⟩
  rw [← hc2] at yc
  have HU : Hid (∀ k, PqAt ((w.drewN k).setCell ⟨G, 2, none⟩ (.int .i64 (c2 : Int))) G gb r u l Q c2 S ∧ OnlyS S w ((w.drewN k).setCell ⟨G, 2, none⟩ (.int .i64 (c2 : Int)))) := Lib.hid (fun k => by
    rw [hc2]
    have := (HQ.out.on (belowDrewN w k)).cutUp
    exact ⟨this.1, (OnlyS.of (S := S) (belowDrewN w k)).trans this.2 (fun i hi _ => hi)⟩)
  have HC2 := Lib.hid hc2
  by_cases h16 : 16 ≤ n
  · have t1 : decide ((16 : Int) ≤ (n : Int)) = true := by simp; omega
    have t2 : decide (16 ≤ n) = true := by simpa using h16
    clear hn28 hc2 hp hcut hn hu
    go_enter Try.func9, Try.ntmps9
    go_upto_region 1 with (fail)
    go_quiet ((first | (go_at_call 26; refine Calls.quiet_of (C1.out _)) | (go_at_call 27; refine Calls.quiet_of (C2.out _))))
    go_wp2_with fail
    go_ret
    rw [← HC2.out]
    exact ⟨rfl, S, (HU.out _).1, fun k hk => .inl hk, (HU.out _).2⟩
  · have t1 : decide ((16 : Int) ≤ (n : Int)) = false := by simp; omega
    have t2 : decide (16 ≤ n) = false := by simpa using h16
    have t3 : decide ((u : Int) < (n28 : Int)) = true := by simp; omega
    have t4 : decide (u < n28) = true := by simp; omega
    have t5 : u < n28 := by omega
    clear hn28 hc2 hp hcut hn hu
    go_enter Try.func9, Try.ntmps9
    go_upto_region 1 with (fail)
    go_quiet ((first | (go_at_call 26; refine Calls.quiet_of (C1.out _)) | (go_at_call 27; refine Calls.quiet_of (C2.out _))))
    go_wp2_with fail
    go_ret
    rw [← HC2.out]
    exact ⟨rfl, S, (HU.out _).1, fun k hk => .inl hk, (HU.out _).2⟩
theorem put_end {w1 W : World} {v v' : Value} {ds : List Sl} {d : Sl} {x : List UInt8} (hs1 : PqSt w1 G gb r u l Q cut v ds) (hI : OnlyS (fun k => some k = v.ownBlock) w1 W) (hrow : RowAt W v' (ds ++ [d]) (Q ++ [x])) (hnd : ∀ k, bOf d = some k → w1.heap.size ≤ k) (hnv : ∀ k, v'.ownBlock = some k → v.ownBlock = some k ∨ w1.heap.size ≤ k) :
    PqSt (W.setCell ⟨G, 1, none⟩ v') G gb r u l (Q ++ [x]) cut v' (ds ++ [d]) ∧ (∀ k, PqS G gb v' (ds ++ [d]) k → PqS G gb v ds k ∨ w1.heap.size ≤ k) ∧ OnlyS (PqS G gb v ds) w1 (W.setCell ⟨G, 1, none⟩ v') := by
  have hGl := hs1.blk.lt
  have hbl := hs1.bkt.lt
  have hGT : ¬ some G = v.ownBlock := fun e => hs1.neG.1 e.symm
  have hBW : Blk W G 55 #[.pointer (some ⟨gb, 0, none⟩), v, .int .i64 (cut : Int)] := (hI.block G hGl hGT).trans hs1.blk
  have hnb : v'.ownBlock ≠ some G ∧ v'.ownBlock ≠ some gb := ⟨fun e => by
    rcases hnv G e with h5 | h5
    · exact hGT h5.symm
    · omega, fun e => by
    rcases hnv gb e with h5 | h5
    · exact hs1.neb.1 h5
    · omega⟩
  have hmm : ∀ k, k ∈ bks (ds ++ [d]) → k ∈ bks ds ∨ w1.heap.size ≤ k := fun k hm => by
    rw [bks_app, List.mem_append] at hm
    rcases hm with hm | hm
    · exact .inl hm
    · obtain ⟨d', hd', hb'⟩ := List.mem_filterMap.1 hm
      rw [List.mem_singleton.1 hd'] at hb'
      exact .inr (hnd k hb')
  have hnn : ∀ k, k < w1.heap.size → k ∉ bks ds → k ∉ bks (ds ++ [d]) := fun k hk h0 hm => by
    rcases hmm k hm with h1 | h1
    · exact h0 h1
    · omega
  have hoG := OnlyS.one (S := fun k => k = G) (Only.set G 1 W v') rfl
  refine ⟨⟨?_, (hs1.bkt.onlyS hI (fun e => hs1.neb.1 e.symm)).onlyS hoG (fun e : gb = G => hs1.ne e.symm), hrow.keep hoG (fun k hk (e : k = G) => hnb.1 (e ▸ hk)) (fun k hk (e : k = G) => hnn G hGl hs1.neG.2 (e ▸ hk)), hs1.ne, ⟨hnb.1, hnn G hGl hs1.neG.2⟩, ⟨hnb.2, hnn gb hbl hs1.neb.2⟩⟩, fun k hk => ?_, ?_⟩
  · have := hBW.set_ 1 v'
    simpa only [List.setIfInBounds_toArray, List.set_cons_succ, List.set_cons_zero] using this
  · rcases hk with rfl | rfl | hk | hk
    · exact .inl (.inl rfl)
    · exact .inl (.inr (.inl rfl))
    · rcases hnv k hk with h5 | h5
      · exact .inl (.inr (.inr (.inl h5)))
      · exact .inr h5
    · rcases hmm k hk with h5 | h5
      · exact .inl (.inr (.inr (.inr h5)))
      · exact .inr h5
  · exact (hI.more (T := PqS G gb v ds) fun k hk => .inr (.inr (.inl hk.symm))).trans hoG (fun i (hi : i = G) _ => .inl hi)
set_option maxHeartbeats 1600000 in
theorem pq_put_yes (h : PqAt w G gb r u l Q cut S) (hu : u ≤ 1099511627776) {A : Option Addr} {n8 c8 : Nat} {x : List UInt8} (hx : R8 w w.heap.size A n8 c8 x) (hn : n8 ≤ 100000) (hyes : putB u Q x = true) : Calls Try.prog 9 #[.pointer (some ⟨G, 0, none⟩), .slice A n8 c8] w (PqOut G gb r u l (putQ u Q x) (putC u Q x cut) S (.bool (putB u Q x)) w) := by
  have e1 : putQ u Q x = Q ++ [x] := by unfold putQ; rw [hyes]; rfl
  have e2 : putC u Q x cut = cut := by unfold putC; rw [hyes]; rfl
  rw [e1, e2, hyes]
  have hxl := hx.1
  have hp : Q.length < 16 ∧ n8 + 28 ≤ u := by simpa only [putB, costN, decide_eq_true_eq, hxl] using hyes
  obtain ⟨hp1, hp2⟩ := hp
  obtain ⟨v, ds, hs, hS1, hS2⟩ := h
  obtain ⟨⟨k0, k1, k2⟩, f1, f2⟩ := hs.cells
  obtain ⟨Av, cv, hv, _⟩ := hs.row.own.val
  subst hv
  have C1 := Lib.hid (fun k => pq_cost (A := A) (c := c8) (w := w.drewN k) hn)
  have C2 := Lib.hid (fun k => pk_burst gb r u l (w.drewN k) (hs.bkt.on (belowDrewN w k)))
  have hl := hs.row.len
  have HS := Lib.hid (⟨hs, hS1, hS2⟩ : _ ∧ _ ∧ _)
  have HX := Lib.hid hx
  obtain ⟨n, hn'⟩ : ∃ n, n = ds.length := ⟨_, rfl⟩
  rw [← hn'] at k1 hl
  rw [← hl] at hp1
  have HN := Lib.hid hn'
  clear e1 e2 hyes hx hs hS1 hS2 hxl hl hn'
  obtain ⟨n28, hn28⟩ : ∃ n28, n28 = n8 + 28 := ⟨_, rfl⟩
  rw [← hn28] at C1 hp2
  have t1 : decide ((16 : Int) ≤ (n : Int)) = false := by simp; omega
  have t2 : decide (16 ≤ n) = false := by simp; omega
  have t3 : decide ((u : Int) < (n28 : Int)) = false := by simp; omega
  have t4 : decide (u < n28) = false := by simp; omega
  have t5 : ¬ u < n28 := by omega
  have HN8 := Lib.hid hn
  have hn16 := Lib.hid hp1
  clear hn28 hp2 hn hu hp1
  go_enter Try.func9, Try.ntmps9
  go_upto_region 1 with (fail)
  go_quiet ((first | (go_at_call 26; refine Calls.quiet_of (C1.out _)) | (go_at_call 27; refine Calls.quiet_of (C2.out _))))
  go_upto_region 4 with (fail)
  clear C1 C2
  have B1 := belowDrewN w nq
  have k1 : (w.drewN nq).cell? ⟨G, 1, none⟩ = some (.slice Av n cv) := k1
  have f1 : (w.drewN nq).frozen? ⟨G, 1, none⟩ = false := f1
  have hs1 : PqSt (w.drewN nq) G gb r u l Q cut (.slice Av n cv) ds := by rw [HN.out]; exact HS.out.1.on B1
  have hx1 : R8 (w.drewN nq) (w.drewN nq).heap.size A n8 c8 x := HX.out.on B1
  have hO1 : OnlyS S w (w.drewN nq) := OnlyS.of B1
  have hz1 : (w.drewN nq).heap.size = w.heap.size := rfl
  have HZ := Lib.hid hz1
  clear B1 k0 k2 f2 hz1
  generalize w.drewN nq = w1 at k1 f1 hs1 hx1 hO1 HZ ⊢
  have hGl := hs1.blk.lt
  have hGT : ¬ some G = (Value.slice Av n cv).ownBlock := fun e => hs1.neG.1 e.symm
  refine wp_region_d (F := puF (fun k => some k = (Value.slice Av n cv).ownBlock) w1) (fun _ _ => True) (fun k j => k == 8 && (j == 6 || j == 7)) (fun i => i == 6 || i == 8) (fun _ W => Below w1.heap.size w1 W) 9
    [.val (.pointer (some ⟨G, 0, none⟩)), .val (.pointer (some ⟨G, 0, none⟩)), .val (.pointer (some ⟨G, 0, none⟩)), .val (.pointer (some ⟨G, 1, none⟩)), .val (.slice Av n cv), .val (.slice A n8 c8), clQ _ w1 x, liQ _ w1 x, roQ _ w1 (.slice Av n cv) ds (Q ++ [x])]
    (fun _ _ _ _ => trivial) (by kernel_rfl) (by kernel_rfl) (by kernel_rfl) (by decide) (by kernel_rfl) (OnlyS.of (belowDrewN w1 1)) (fun i hi => belowDrewN w1 1) (fun i a b _ _ hF _ hp => hp.trans (hF.mono hp.size)) (AllOblD.upto ⟨?_, ?_, ?_, ?_, ?_, ?_, ?_, ?_, ?_, trivial⟩) ?_ ?_
  · intro _
    exact OblD.move rfl _ (Or.inl rfl) (by kernel_rfl) rfl
  · intro _
    exact OblD.move rfl _ (Or.inl rfl) (by kernel_rfl) rfl
  · intro _
    refine OblD.pure rfl (.pointer (some ⟨G, 0, none⟩)) (by kernel_rfl) rfl fun ev W hI hx => ?_
    have e33 : ev (.tmp 29) = .pointer (some ⟨G, 0, none⟩) := holds_valF (hx (.tmp 29)) (by kernel_rfl)
    simp [execOp, e33, go_sem]
  · intro _
    refine OblD.pure rfl (.pointer (some ⟨G, 1, none⟩)) (by kernel_rfl) rfl fun ev W hI hx => ?_
    have e34 : ev (.tmp 30) = .pointer (some ⟨G, 0, none⟩) := holds_valF (hx (.tmp 30)) (by kernel_rfl)
    simp [execOp, e34, go_sem]
  · intro _
    refine OblD.pure rfl (.slice Av n cv) (by kernel_rfl) rfl fun ev W hI hx => ?_
    have e35 : ev (.tmp 31) = .pointer (some ⟨G, 1, none⟩) := holds_valF (hx (.tmp 31)) (by kernel_rfl)
    have hI : OnlyS (fun k => some k = (Value.slice Av n cv).ownBlock) w1 W := hI
    have d4 : W.cell? ⟨G, 1, none⟩ = some (.slice Av n cv) := (hI.cell (p := ⟨G, 1, none⟩) hGl hGT).trans k1
    simp [execOp, e35, go_sem, d4]
  · intro _
    exact OblD.move rfl _ (Or.inl rfl) (by kernel_rfl) rfl
  · exact fun hh => absurd hh (by decide)
  · intro _
    refine OblD.step rfl fun ev W hI hx => ?_
    obtain ⟨d, e34, r34, n34⟩ := clQ_of (x := x) (hx (.tmp 34)) (by kernel_rfl)
    have hI : OnlyS (fun k => some k = (Value.slice Av n cv).ownBlock) w1 W := hI
    refine ⟨.slice (some ⟨W.heap.size, 0, none⟩) 1 1, W.alloc (.cells #[encS d] 29), ?_, hI.trans (OnlyS.of (S := fun k => some k = (Value.slice Av n cv).ownBlock) (belowA W _)) (fun i hi _ => hi), belowA W _, ⟨d, W.heap.size, rfl, hI.size, Blk.new _ _ _, r34.on (belowA W _), n34⟩⟩
    have e34 : ev (.tmp 34) = .slice d.1 d.2.1 d.2.2 := e34
    simp [execOp, e34, go_sem, encS]
  · exact fun hh => absurd hh (by decide)
  · intro i oo him hsp hoo
    have hi2 : i = 6 ∨ i = 8 := by simpa using hsp
    rcases hi2 with hi2 | hi2
    · subst hi2
      obtain rfl := (Option.some.inj hoo).symm
      refine OblDX.call rfl 28 #[.tmp 33] _ rfl Try.f28 Try.func28 (by kernel_rfl) (by kernel_rfl) rfl fun ev W hI hpre hx => ?_
      have hI : OnlyS (fun k => some k = (Value.slice Av n cv).ownBlock) w1 W := hI
      have hpre : Below w1.heap.size w1 W := hpre
      have e33 : ev (.tmp 33) = .slice A n8 c8 := holds_valF (hx (.tmp 33)) (by kernel_rfl)
      simp only [List.map_toArray, List.map_cons, List.map_nil, e33]
      refine (pq_clone (hx1.on hpre) HN8.out).mono ?_
      rintro e W' ⟨d, rfl, r6, n6, b6⟩
      have hI' : OnlyS (fun k => some k = (Value.slice Av n cv).ownBlock) w1 W' := hI.trans (OnlyS.of (S := fun k => some k = (Value.slice Av n cv).ownBlock) b6) (fun i hi _ => hi)
      exact ⟨_, rfl, hI', fun j uu _ _ _ hh => ClF.keep hh hI b6 hI', fun j _ _ _ hp => hp.trans (b6.mono hp.size), ⟨d, rfl, r6, fun k hk => Nat.le_trans hI.size (n6 k hk)⟩⟩
    · subst hi2
      obtain rfl := (Option.some.inj hoo).symm
      refine OblDX.step rfl fun ev W hI hpre hx => ?_
      have hI : OnlyS (fun k => some k = (Value.slice Av n cv).ownBlock) w1 W := hI
      have hpre : Below w1.heap.size w1 W := hpre
      have e32 : ev (.tmp 32) = .slice Av n cv := holds_valF (hx (.tmp 32)) (by kernel_rfl)
      obtain ⟨d, g, e35, hg, hb, r35, n35⟩ := liQ_of (x := x) (hx (.tmp 35)) (by kernel_rfl)
      obtain ⟨v', W', hrun, ho', hg', hv'⟩ := run_appendB (.slice Av n cv) ds (hs1.row.own.on hpre) g d hb (by have := hn16.out; have := HN.out; omega)
      have hgr : OnlyS (fun k => some k = (Value.slice Av n cv).ownBlock) W W' := ⟨hg'.os, hg'.tape, hg'.output, hg'.size, fun k hk hn => hg'.block k hk hn⟩
      refine ⟨v', W', run_op_appendB (.tmp 32) (.tmp 35) rfl rfl _ _ _ e32 e35 hrun, hI.trans hgr (fun i hi _ => hi), ?_, ?_, ?_⟩
      · intro j uu hj hd _ hh
        by_cases hj9 : j < 9
        · have : j = 6 ∨ j = 7 ∨ j = 0 ∨ j = 1 ∨ j = 2 ∨ j = 3 ∨ j = 4 ∨ j = 5 := by omega
          rcases this with rfl | rfl | rfl | rfl | rfl | rfl | rfl | rfl
          · exact absurd hd (by decide)
          · exact absurd hd (by decide)
          all_goals exact hh
        · rw [tbl_outF (n := 9) rfl (by omega)]
          trivial
      · intro j hj hsj hdn hpj
        have hj2 : j = 6 := by
          have : j = 6 ∨ j = 8 := by simpa using hsj
          omega
        subst hj2
        exact absurd ((hdn.symm).trans (by kernel_rfl : _ = true)) (by decide)
      · refine ⟨d, hs1.row.push hpre r35 n35 ho' hg' hv', n35, fun k hk => ?_⟩
        rcases hv' with e | e
        · exact .inl (e ▸ hk)
        · right
          have hk : v'.ownBlock = some k := hk
          rw [e] at hk
          injection hk with hk
          have := hI.size
          omega
  intro aa W hI hsz hdf hold hv _
  have hI : OnlyS (fun k => some k = (Value.slice Av n cv).ownBlock) w1 W := hI
  obtain ⟨d, hrow, hnd, hnv⟩ : ∃ d : Sl, RowAt W (aa.tmps.getD 36 undef) (ds ++ [d]) (Q ++ [x]) ∧ (∀ k, bOf d = some k → w1.heap.size ≤ k) ∧ ∀ k, (aa.tmps.getD 36 undef).ownBlock = some k → (Value.slice Av n cv).ownBlock = some k ∨ w1.heap.size ≤ k := roQ_of (v0 := .slice Av n cv) (ds := ds) (Q := Q ++ [x]) (hv 8 (by decide) (by intro k; cases k <;> simp)) (by kernel_rfl)
  have v28 : aa.tmps.getD 28 undef = .pointer (some ⟨G, 0, none⟩) := holds_valF (hv 0 (by decide) (by intro k; simp)) (by kernel_rfl)
  have ha := act_puts [28, 29, 30, 31, 32, 33, 34, 35, 36, 37, 38] (by kernel_rfl) hsz hdf hold
  simp only [putAll, v28] at ha
  generalize aa.tmps.getD 36 undef = v36 at ha hrow hnv
  generalize aa.tmps.getD 29 undef = x29 at ha
  generalize aa.tmps.getD 30 undef = x30 at ha
  generalize aa.tmps.getD 31 undef = x31 at ha
  generalize aa.tmps.getD 32 undef = x32 at ha
  generalize aa.tmps.getD 33 undef = x33 at ha
  generalize aa.tmps.getD 34 undef = x34 at ha
  generalize aa.tmps.getD 35 undef = x35 at ha
  generalize aa.tmps.getD 37 undef = x37 at ha
  generalize aa.tmps.getD 38 undef = x38 at ha
  clear v28 hv hold hsz hdf
  subst ha
  simp only [List.toList_toArray, List.drop_succ_cons, List.drop_zero, Act.put, List.setIfInBounds_toArray, List.set_cons_succ, List.set_cons_zero]
  obtain ⟨A7, c7, e7, _⟩ := hrow.own.val
  obtain ⟨m7, hm7⟩ : ∃ m, m = (ds ++ [d]).length := ⟨_, rfl⟩
  rw [← hm7] at e7
  subst e7
  have hBW : Blk W G 55 #[.pointer (some ⟨gb, 0, none⟩), .slice Av n cv, .int .i64 (cut : Int)] := (hI.block G hGl hGT).trans hs1.blk
  have hf1 := hBW.frozen 1
  have hc1 : W.cell? ⟨G, 1, none⟩ = some (.slice Av n cv) := hBW.cell 1
  have HP := Lib.hid (put_end hs1 hI hrow hnd hnv)
  have HO1 := Lib.hid hO1
  clear hBW hI hrow hnd hnv hm7 hs1 hx1 hO1 k1 hGT f1 hGl
  go_wp2_with fail
  go_ret
  obtain ⟨p1, p2, p3⟩ := HP.out
  have h0 := HS.out.2.1
  rw [← HN.out] at h0
  have hz := HZ.out
  refine ⟨rfl, _, p1.at, fun k hk => ?_, HO1.out.trans p3 (fun i hi _ => h0 i hi)⟩
  rcases p2 k hk with h5 | h5
  · exact .inl (h0 k h5)
  · right
    rw [← hz]
    exact h5
theorem pq_put (h : PqAt w G gb r u l Q cut S) (ok : BkOk r u l) (hQ : QuOk u Q) (hcut : cut ≤ 1000000) {A : Option Addr} {n c : Nat} {x : List UInt8} (hx : R8 w w.heap.size A n c x) (hn : n ≤ 100000) : Calls Try.prog 9 #[.pointer (some ⟨G, 0, none⟩), .slice A n c] w (PqOut G gb r u l (putQ u Q x) (putC u Q x cut) S (.bool (putB u Q x)) w) := by
  cases hp : putB u Q x with
  | true => have := pq_put_yes h ok.burst hx hn hp; rwa [hp] at this
  | false => have := pq_put_no h hQ.1 ok.burst hcut hx hn hp; rwa [hp] at this
end
end Go.Proofs.Ytdjopbhjfnakdaa
