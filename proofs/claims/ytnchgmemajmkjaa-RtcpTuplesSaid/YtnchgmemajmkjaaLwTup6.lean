/- RtcpTuples' walk. -/
import Derived.Test.YtnchgmemajmkjaaMq
import Derived.Test.YtnchgmemajmkjaaRcN
import Derived.Test.YtnchgmemajmkjaaMt
namespace Go.Proofs.Ytnchgmemajmkjaa.RP
open Go.RowKit
set_option linter.unusedVariables false
set_option linter.unusedSimpArgs false
set_option maxRecDepth 20000

/-- The report at L, behind tape g. -/
structure TMem (g : Nat) (w : World) (L : Nat) (cs : Array Value) (W : World) : Prop where
  blk : Blk W L 33 cs
  below : Below w.heap.size w W
  tape : TapeAt W g
  ord : w.heap.size ≤ g ∧ g < L ∧ L < W.heap.size
section
variable {g : Nat} {w W W' : World} {L : Nat} {cs : Array Value}
theorem TMem.step (h : TMem g w L cs W) (hm : Moves g W W') : TMem g w L cs W' := by
  obtain ⟨o1, o2, o3⟩ := h.ord
  have hs := hm.below.size
  exact ⟨(hm.other L (by omega) (by omega)).trans h.blk, h.below.trans (hm.below.mono (by omega)), hm.tape, o1, o2, by omega⟩
theorem TMem.on (h : TMem g w L cs W) (hb : Below W.heap.size W W') : TMem g w L cs W' := h.step (Moves.of h.tape hb)
theorem TMem.set (h : TMem g w L cs W) (i : Nat) (v : Value) : TMem g w L (cs.setIfInBounds i v) (W.setCell ⟨L, i, none⟩ v) := by
  obtain ⟨o1, o2, o3⟩ := h.ord
  have hb : Below L W (W.setCell ⟨L, i, none⟩ v) := (Below.refl _ W).setCell (p := ⟨L, i, none⟩) (Nat.le_refl _) _
  have hs := hb.size
  exact ⟨h.blk.set_ i v, h.below.trans (hb.mono (by omega)), h.tape.keep (hb.mono (by omega)) (hb.block g o2), o1, o2, by omega⟩
theorem TMem.grown {row : Option Nat} (h : TMem g w L cs W) (hg : W.grownBy W' row) (hr : ∀ k, row = some k → L < k) : TMem g w L cs W' := by
  obtain ⟨o1, o2, o3⟩ := h.ord
  have hb : Below (L + 1) W W' := (Below.refl (L + 1) W).grown hg (by omega) fun k hk => by have := hr k hk; omega
  have hs := hb.size
  exact ⟨(hb.block L (by omega)).trans h.blk, h.below.trans (hb.mono (by omega)), h.tape.keep (hb.mono (by omega)) (hb.block g (by omega)), o1, o2, by omega⟩
end
def tF (g : Nat) (w : World) (L : Nat) (cs : Array Value) (wr : World) : Frame where
  I := fun W => TMem g w L cs W ∧ wr.heap.size ≤ W.heap.size
  Fr := fun a b => But g a b
  refl := fun w _ => ⟨Nat.le_refl _, fun _ _ _ => rfl⟩
  trans := fun a b c h k => h.trans k
  drew := fun W h => ⟨⟨h.1.on (below_drewN _ W 1), h.2⟩, ⟨Nat.le_refl _, fun _ _ _ => rfl⟩⟩
section
variable {g : Nat} {w wr : World} {L : Nat} {cs : Array Value}
def tT : ClF (tF g w L cs wr) := .pred (fun v _ => ∃ t : Tup, t.In ∧ t.ok = true ∧ v = .agg t.cells.toArray) (fun _ _ _ _ _ _ h => h)
theorem tT_of {c : ClF (tF g w L cs wr)} {v : Value} {W : World} (h : c.holds v W) (e : c = tT) : ∃ t : Tup, t.In ∧ t.ok = true ∧ v = .agg t.cells.toArray := by subst e; exact h
def tT1 : ClF (tF g w L cs wr) := .pred (fun v W => ∃ (t : Tup) (b : Nat), t.In ∧ t.ok = true ∧ v = .slice (some ⟨b, 0, none⟩) 1 1 ∧ wr.heap.size ≤ b ∧ g < b ∧ RT W W.heap.size (some ⟨b, 0, none⟩) 1 1 [t]) (fun v a b _ hf _ h => by
  obtain ⟨x, q, h1, h2, h3, h4, h5, h6⟩ := h
  exact ⟨x, q, h1, h2, h3, h4, h5, h6.but hf fun ad e => by injection e with e; subst e; simp only; omega⟩)
theorem tT1_of {c : ClF (tF g w L cs wr)} {v : Value} {W : World} (h : c.holds v W) (e : c = tT1) : ∃ (t : Tup) (b : Nat), t.In ∧ t.ok = true ∧ v = .slice (some ⟨b, 0, none⟩) 1 1 ∧ wr.heap.size ≤ b ∧ g < b ∧ RT W W.heap.size (some ⟨b, 0, none⟩) 1 1 [t] := by subst e; exact h
end
theorem ok_tup6 {K : Int} {src : Nat} {l : List Tup} (hK : K = 1 ∨ K = 2) (hl : l.length ≤ 6) (ho : ∀ t ∈ l, t.ok = true) : Rep.err ⟨K, src, 0, l, [], [], 0, 0, 0, []⟩ = 0 ∧ (Rep.one ⟨K, src, 0, l, [], [], 0, 0, 0, []⟩).length = 12 + 8 * l.length := by
  refine ⟨err_of_fits (by simp only; omega) ?_ ?_, ?_⟩
  · unfold Rep.fits
    rw [if_pos hK]
    simp only [tupsOk, Bool.and_eq_true, List.all_eq_true, decide_eq_true_eq]
    exact ⟨ho, by omega⟩
  · rcases hK with rfl | rfl <;> simp [Rep.bare]
  · rw [Rep.one_len]
    unfold Rep.tail
    rw [if_pos hK]
    simp only [List.length_append, be_len, flat_len Tup.bytes 8 Tup.bytes_len]
    omega
theorem err_one {r : Rep} (h : r.err = 0) (hl : r.one.length ≤ 1500) : repsErr [r] = 0 := by
  unfold repsErr
  rw [if_neg (by simp)]
  have hf : [r].find? (fun r => decide (r.err ≠ 0)) = none := List.find?_eq_none.2 fun x hx => by rw [List.mem_singleton.1 hx]; simp [h]
  rw [hf]
  simp only
  rw [if_neg (by simp [onesB]; omega)]
theorem bits_and1 (n : Int) : ∃ k : Nat, bits .and .i64 n 1 = (k : Int) ∧ k ≤ 1 := by
  have h : (BitVec.ofInt 64 n &&& BitVec.ofInt 64 1).toNat ≤ 1 := by
    rw [BitVec.toNat_and, show (BitVec.ofInt 64 1).toNat = 1 by decide]
    exact Nat.and_le_right
  refine ⟨(BitVec.ofInt 64 n &&& BitVec.ofInt 64 1).toNat, ?_, h⟩
  show IntKind.i64.wrap ((BitVec.ofInt 64 n &&& BitVec.ofInt 64 1).toNat : Int) = _
  rw [IntKind.wrap_i64]
  omega
theorem one_of6 {L : List Rv} {a : Rep} (h : L.map Rv.r = [a]) : ∃ x, L = [x] ∧ x.r = a := by
  match L, h with
  | [x], h => simp only [List.map_cons, List.map_nil, List.cons.injEq, and_true] at h; exact ⟨x, rfl, h⟩
theorem mul_8n (k : Nat) (p q : Operand) (h : k ≤ 1000) (w : World) : (do eqGuard .mul 3 p q (.int .i64 8) (.int .i64 (k : Int)); binOp .mul 3 (.int .i64 8) (.int .i64 (k : Int)) : Sem Value).run Try.prog w = .ok (.int .i64 ((8 * k : Nat) : Int)) w := by
  have e : IntKind.i64.wrap (8 * (k : Int)) = ((8 * k : Nat) : Int) := by rw [IntKind.wrap_i64]; omega
  simp [eqGuard, go_sem, e]
theorem add_12n (k n : Nat) (p q : Operand) (h : k ≤ 1000) (hn : n = 12 + 8 * k) (w : World) : (do eqGuard .add 3 p q (.int .i64 12) (.int .i64 ((8 * k : Nat) : Int)); binOp .add 3 (.int .i64 12) (.int .i64 ((8 * k : Nat) : Int)) : Sem Value).run Try.prog w = .ok (.int .i64 (n : Int)) w := by
  have e : IntKind.i64.wrap (12 + 8 * (k : Int)) = (n : Int) := by rw [IntKind.wrap_i64]; omega
  simp [eqGuard, go_sem, e]
set_option maxHeartbeats 4000000 in
theorem rtcpTuples_walk (A : Option Addr) (n c : Nat) (m from_ : Int) (w : World) (h : RI w w.heap.size A n c) (hn : n ≤ 281474976710656) (hm : I64 m) (hfw : (Lit.int .u32 from_).wf = true) :
    Calls Try.prog 8 #[.slice A n c, .int .i64 m, .int .u32 from_] w (Yes w) := by
  obtain ⟨f, rfl, hf⟩ : ∃ f : Nat, from_ = (f : Int) ∧ f < 4294967296 := by
    have h1 : 0 ≤ from_ ∧ from_ ≤ 4294967295 := by simpa [Lit.wf, IntKind.min, IntKind.max, IntKind.signed, IntKind.bits] using hfw
    exact ⟨from_.toNat, by omega, by omega⟩
  clear hfw
  have hT := tape_at6 h hn
  have b0 : Below w.heap.size w (w.alloc (.cells #[.slice A n c, .int .i64 0] 26)) := (Below.refl _ w).alloc (Nat.le_refl _) _
  have s0 : (w.alloc (.cells #[.slice A n c, .int .i64 0] 26)).heap.size = w.heap.size + 1 := by simp
  clear h
  obtain ⟨k1, hk1, hk1'⟩ := bits_and1 m
  obtain ⟨M, hM0, hM6, _, hwi⟩ := within_ex m 0 6 hm (by omega) (by omega) (by omega)
  obtain ⟨M, rfl⟩ := Int.eq_ofNat_of_zero_le hM0
  go_enter Try.func8, Try.ntmps8
  go_upto_region 3 with (fail)
  obtain ⟨K, hK⟩ : ∃ K : Nat, (1 : Int) + (k1 : Int) = (K : Int) := ⟨1 + k1, by omega⟩
  have hKK : K = 1 ∨ K = 2 := by omega
  have HKK := Lib.hid hKK
  rw [hK]
  clear hK hk1 hk1' hKK
  generalize w.alloc (.cells #[.slice A n c, .int .i64 0] 26) = V at hT b0 s0 ⊢
  have ba := (Below.refl _ V).alloc (Nat.le_refl _) (.cells #[.int .i64 (K : Int), .int .u32 (f : Int), .int .u32 0, .slice none 0 0, .slice none 0 0, .slice none 0 0, .int .u64 0, .int .i64 0, .int .i64 0, .slice none 0 0] 33)
  have hQ : TMem w.heap.size w V.heap.size #[.int .i64 (K : Int), .int .u32 (f : Int), .int .u32 0, .slice none 0 0, .slice none 0 0, .slice none 0 0, .int .u64 0, .int .i64 0, .int .i64 0, .slice none 0 0] (V.alloc (.cells #[.int .i64 (K : Int), .int .u32 (f : Int), .int .u32 0, .slice none 0 0, .slice none 0 0, .slice none 0 0, .int .u64 0, .int .i64 0, .int .i64 0, .slice none 0 0] 33)) := ⟨Blk.new _ _ _, b0.trans (ba.mono b0.size), hT.on ba, Nat.le_refl _, by omega, by simp⟩
  rw [s0] at hQ
  clear ba hT b0
  have hg0 : w.heap.size + 1 = w.heap.size + 1 := rfl
  generalize hL : w.heap.size + 1 = L at hQ
  have HL := Lib.hid hL
  clear hL hg0 s0
  generalize V.alloc (.cells #[.int .i64 (K : Int), .int .u32 (f : Int), .int .u32 0, .slice none 0 0, .slice none 0 0, .slice none 0 0, .int .u64 0, .int .i64 0, .int .i64 0, .slice none 0 0] 33) = W0 at hQ ⊢
  go_wp2_with fail
  go_loopw [9] (fun i wr => ∃ (q : Nat) (l : List Tup) (A1 : Option Addr) (c1 : Nat), i = .int .i64 (q : Int) ∧ Hid (l.length = q) ∧ q ≤ 6 ∧ (∀ t ∈ l, t.In ∧ t.ok = true) ∧ TMem w.heap.size w L #[.int .i64 (K : Int), .int .u32 (f : Int), .int .u32 0, .slice A1 l.length c1, .slice none 0 0, .slice none 0 0, .int .u64 0, .int .i64 0, .int .i64 0, .slice none 0 0] wr ∧ OwnT wr (L + 1) (.slice A1 l.length c1) l) (fun i _ => M - (intOf i).toNat)
  case atStart => exact ⟨0, [], none, 0, rfl, Lib.hid rfl, by omega, by simp, hQ, World.ownsRow_nil _ _ _ _⟩
  case round =>
    obtain ⟨q, l, A1, c1, rfl, HLQ, hq6, hok, hQ, hown⟩ := hrel
    go_wp2_with fail
    refine (hwi _).mono ?_
    rintro e w' ⟨rfl, hw'⟩
    obtain rfl := hw'.symm
    by_cases hlt : q < M
    · have g3 : decide ((q : Int) < (M : Int)) = true := by simp; omega
      go_upto_region 6 with (fail)
      have o4 := hQ.ord
      refine wp_region_ft (F := tF w.heap.size w L #[.int .i64 (K : Int), .int .u32 (f : Int), .int .u32 0, .slice A1 l.length c1, .slice none 0 0, .slice none 0 0, .int .u64 0, .int .i64 0, .int .i64 0, .slice none 0 0] wr) 5
        [.val (.pointer (some ⟨L, 3, none⟩)), .val (.slice A1 l.length c1), .val (.pointer (some ⟨w.heap.size, 0, none⟩)), tT, tT1]
        (by kernel_rfl) (by kernel_rfl) (by kernel_rfl) (by decide) (by kernel_rfl) ⟨hQ, Nat.le_refl _⟩ (AllOblF.upto ⟨?_, ?_, ?_, ?_, ?_, trivial⟩) ?_
      · refine OblF.pure rfl (.pointer (some ⟨L, 3, none⟩)) (by kernel_rfl) rfl fun ev W hI hf hx => ?_
        have e3 : ev (.tmp 8) = .pointer (some ⟨L, 0, none⟩) := holds_valF (hx (.tmp 8)) (by kernel_rfl)
        simp [execOp, e3, go_sem]
      · refine OblF.pure rfl (.slice A1 l.length c1) (by kernel_rfl) rfl fun ev W hI hf hx => ?_
        have e3 : ev (.tmp 28) = .pointer (some ⟨L, 3, none⟩) := holds_valF (hx (.tmp 28)) (by kernel_rfl)
        have c5 := (blk10 hI.1.blk).2.2.2.1
        simp [execOp, e3, go_sem, c5]
      · exact OblF.move rfl _ (Or.inl rfl) (by kernel_rfl) rfl
      · refine OblF.call rfl 25 #[.tmp 30] _ rfl Try.f25 Try.func25 (by kernel_rfl) (by kernel_rfl) rfl fun ev W hI hf hx => ?_
        have e3 : ev (.tmp 30) = .pointer (some ⟨w.heap.size, 0, none⟩) := holds_valF (hx (.tmp 30)) (by kernel_rfl)
        simp only [List.map_toArray, List.map_cons, List.map_nil, e3]
        refine (tape_tuple w.heap.size W hI.1.tape).mono ?_
        rintro e W' ⟨t, rfl, ht, hto, hm⟩
        exact ⟨_, rfl, ⟨hI.1.step hm, Nat.le_trans hI.2 hm.below.size⟩, But.of_moves hm, t, ht, hto, rfl⟩
      · refine OblF.step rfl fun ev W hI hf hx => ?_
        obtain ⟨t, ht, hto, e3⟩ : ∃ t : Tup, t.In ∧ t.ok = true ∧ ev (.tmp 31) = .agg t.cells.toArray := tT_of (hx (.tmp 31)) (by kernel_rfl)
        have hbW := (Below.refl W.heap.size W).alloc (Nat.le_refl _) (.cells t.cells.toArray 57)
        refine ⟨.slice (some ⟨W.heap.size, 0, none⟩) 1 1, W.alloc (.cells t.cells.toArray 57), ?_, ?_, ?_, ?_⟩
        · simp [execOp, e3, go_sem, Tup.cells]
        · exact ⟨hI.1.on hbW, Nat.le_trans hI.2 hbW.size⟩
        · exact But.of_below _ hbW
        · exact ⟨t, W.heap.size, ht, hto, rfl, hI.2, by have := hI.1.ord; omega, lit_rt t ht W _ rfl⟩
      intro a W hI hf hsz hdf hold hv
      have v28 : a.tmps.getD 28 undef = .pointer (some ⟨L, 3, none⟩) := holds_valF (hv 0 (by decide)) (by kernel_rfl)
      have v29 : a.tmps.getD 29 undef = .slice A1 l.length c1 := holds_valF (hv 1 (by decide)) (by kernel_rfl)
      obtain ⟨t, b, ht, hto, p32, hbw, hgb, hrt⟩ := tT1_of (hv 4 (by decide)) (by kernel_rfl)
      have v32 : a.tmps.getD 32 undef = .slice (some ⟨b, 0, none⟩) 1 1 := p32
      have ha := act_puts [28, 29, 30, 31, 32, 33, 34] (by kernel_rfl) hsz hdf hold
      simp only [putAll, v28, v29, v32] at ha
      generalize a.tmps.getD 30 undef = x30 at ha
      generalize a.tmps.getD 31 undef = x31 at ha
      generalize a.tmps.getD 33 undef = x33 at ha
      generalize a.tmps.getD 34 undef = x34 at ha
      clear v28 v29 v32 p32 hv hold hsz hdf
      subst ha
      simp only [List.toList_toArray, List.drop_succ_cons, List.drop_zero, Act.put, List.setIfInBounds_toArray, List.set_cons_succ, List.set_cons_zero]
      have hQ9 : TMem w.heap.size w L #[.int .i64 (K : Int), .int .u32 (f : Int), .int .u32 0, .slice A1 l.length c1, .slice none 0 0, .slice none 0 0, .int .u64 0, .int .i64 0, .int .i64 0, .slice none 0 0] W := hI.1
      have hf' : But w.heap.size wr.drew W := hf
      have hown9 : OwnT W (L + 1) (.slice A1 l.length c1) l := own_but (World.ownsRow.drew hown) hf'.size hf'.block (fun e => by have := (World.ownsRow.lt hown _ e).1; omega)
      have hin : ∀ x ∈ l ++ [t], x.In := fun x hx => by
        rcases List.mem_append.1 hx with hx | hx
        · exact (hok x hx).1
        · rw [List.mem_singleton.1 hx]
          exact ht
      have hok9 : ∀ x ∈ l ++ [t], x.In ∧ x.ok = true := fun x hx => by
        rcases List.mem_append.1 hx with hx | hx
        · exact hok x hx
        · rw [List.mem_singleton.1 hx]
          exact ⟨ht, hto⟩
      have oL := hQ9.ord
      have HIN := Lib.hid hin
      have HOK := Lib.hid hok9
      have HLB := Lib.hid (show l.length + 1 ≤ 1000000 by have := HLQ.out; omega)
      have hL1 : L + 1 ≤ W.heap.size := by omega
      have HLOW := Lib.hid (show ∀ k, (Value.slice A1 l.length c1).ownBlock = some k → L < k from fun k hk => by have := (World.ownsRow.lt hown9 _ hk).1; omega)
      clear hI hf hf' hQ hown hin hok9 hok o4
      go_wp2_with (at_builtin; ((with_reducible refine wpList_appendT rfl (.tmp 29) (.tmp 32) rfl rfl (L + 1) (.slice A1 l.length c1) l (by with_unfolding_all rfl) hown9 W.heap.size (some ⟨b, 0, none⟩) 1 1 [t] (by with_unfolding_all rfl) hrt HLB.out hL1 ?_); rintro v9 w9 ⟨ha9, hg9⟩; have hQ10 := hQ9.grown hg9 HLOW.out; obtain ⟨A9, c9, rfl, _⟩ := ha9.rt HIN.out; have d3 := (blk10 hQ10.blk).2.2.2.1; have f3 := hQ10.blk.frozen 3))
      have hQ11 := hQ10.set 3 (.slice A9 (l ++ [t]).length c9)
      have ha11 : OwnT (w9.setCell ⟨L, 3, none⟩ (.slice A9 (l ++ [t]).length c9)) (L + 1) (.slice A9 (l ++ [t]).length c9) (l ++ [t]) := own_set (i := 3) ha9 (.slice A9 (l ++ [t]).length c9)
      simp only [List.setIfInBounds_toArray, List.set_cons_succ, List.set_cons_zero] at hQ11
      have HLEN := Lib.hid (show (l ++ [t]).length = l.length + 1 by simp)
      rw [HLEN.out] at hQ11 ha11
      have HLQ2 : Hid ((l ++ [t]).length = q + 1) := Lib.hid (by rw [HLEN.out, HLQ.out])
      clear hQ10 hQ9 ha9 hg9 d3 f3 hrt hown9 HLOW
      go_roundw
      case rel => exact ⟨q + 1, l ++ [t], A9, c9, by go_num, HLQ2, by omega, HOK.out, by rw [HLEN.out]; exact hQ11, by rw [HLEN.out]; exact ha11⟩
      case measure => simp [intOf]; omega
    · have g3 : decide ((q : Int) < (M : Int)) = false := by simp; omega
      obtain ⟨A', c', he', hrt⟩ := hown.rt (fun t ht => (hok t ht).1)
      injection he' with e1 e2 e3
      subst e1 e3
      clear e2
      have hl6 : l.length ≤ 6 := by have := HLQ.out; omega
      obtain ⟨her, hln⟩ := ok_tup6 (K := (K : Int)) (src := f) (l := l) (by have := HKK.out; omega) hl6 (fun t ht => (hok t ht).2)
      have hIS : IsR wr wr.heap.size ⟨⟨(K : Int), f, 0, l, [], [], 0, 0, 0, []⟩, A1, c1, none, 0, none, 0, none, 0⟩ := ⟨hrt, R32.nil _ _ _ _, RN.nil _ _ _ _, R8.nil _ _ _ _, Rep.In.of (i64_small (by have := HKK.out; omega)) hf (by omega) (by omega) (i64_small (by omega)) (i64_small (by omega)) (by omega) (by simp) (by simp) (by simp)⟩
      have hrd : Reads ⟨(K : Int), f, 0, l, [], [], 0, 0, 0, []⟩ := reads_any her hIS.kinds hIS.tups.2.1 hIS.abouts.2.2.1
      have hbl := (Below.refl _ wr).alloc (Nat.le_refl _) (.cells #[.int .i64 (K : Int), .int .u32 (f : Int), .int .u32 0, .slice A1 l.length c1, .slice none 0 0, .slice none 0 0, .int .u64 0, .int .i64 0, .int .i64 0, .slice none 0 0] 33)
      have hrr := rr_block (n := 1) (L := [⟨⟨(K : Int), f, 0, l, [], [], 0, 0, 0, []⟩, A1, c1, none, 0, none, 0, none, 0⟩]) (Blk.new wr 33 #[.int .i64 (K : Int), .int .u32 (f : Int), .int .u32 0, .slice A1 l.length c1, .slice none 0 0, .slice none 0 0, .int .u64 0, .int .i64 0, .int .i64 0, .slice none 0 0]) rfl rfl (fun z hz => by rw [List.mem_singleton.1 hz]; exact hIS.on hbl)
      have q1 := rtcp_bytes _ _ _ _ _ hrr (by omega)
      replace q1 := q1.mono fun e w' h => h.1 (err_one her (by rw [hln]; omega))
      have e1 : onesB ([⟨⟨(K : Int), f, 0, l, [], [], 0, 0, 0, []⟩, A1, c1, none, 0, none, 0, none, 0⟩].map Rv.r) = (Rep.one ⟨(K : Int), f, 0, l, [], [], 0, 0, 0, []⟩) := by simp [onesB]
      rw [e1] at q1
      have hrds : rdReps (Rep.one ⟨(K : Int), f, 0, l, [], [], 0, 0, 0, []⟩) = (0, [⟨(K : Int), f, 0, l, [], [], 0, 0, 0, []⟩]) := by
        have := rdReps_ones (L := [⟨(K : Int), f, 0, l, [], [], 0, 0, 0, []⟩]) (by simp) (by simpa using hrd) (by simp only [onesB, List.flatMap_cons, List.flatMap_nil, List.append_nil]; omega)
        simpa [onesB] using this
      generalize Rep.one ⟨(K : Int), f, 0, l, [], [], 0, 0, 0, []⟩ = B at q1 hrds hln
      have HRD := Lib.hid hrds
      have HLN := Lib.hid hln
      have hB := hQ.blk
      have b2 := hQ.below
      obtain ⟨y0, y1, y2, y3, y4, y5, y6, y7, y8, y9⟩ := blk10 hB
      have hBl := hB.lt
      have hB2 := hB.below hbl hBl
      have hrt2 := hrt.on hbl
      have b3 := b2.trans (hbl.mono b2.size)
      clear e1 hrds hln her hIS hrd hrr hbl hown hok hQ hB hrt b2
      go_wp2_with fail
      refine q1.mono ?_
      rintro e w3 ⟨A3, n3, c3, rfl, r3, b4⟩
      have hn3 : n3 = 12 + 8 * l.length := by rw [← r3.1, HLN.out]
      have HN3 := Lib.hid hn3
      have hn3b : n3 ≤ 100 := by omega
      have hB2l := hB2.lt
      replace hB2 := hB2.below b4 hB2l
      replace hrt2 := hrt2.on b4
      replace b4 := b3.trans (b4.mono b3.size)
      have rq := rtcp_read A3 n3 c3 _ w3 r3 (by omega)
      unfold RdOut at rq
      rw [HRD.out] at rq
      clear q1 y0 y1 y2 y3 y4 y5 y6 y7 y8 y9 b3 hn3 HRD r3 hBl hB2l
      go_wp2_with fail
      refine rq.mono ?_
      rintro e w4 ⟨A4, n4, c4, L4, rfl, hL4, rr4, hn4, b5⟩
      obtain ⟨z, rfl, hz⟩ := one_of6 hL4
      obtain ⟨r0, At0, ct0, Aa0, ca0, An0, cn0, Ab0, cb0⟩ := z
      simp only at hz
      subst hz
      have hn4 : n4 = 1 := rr4.1.symm
      subst hn4
      have hzt := (rr4.2.1 _ (List.mem_singleton.2 rfl)).tups
      obtain ⟨b, off, rfl, hbb, k0, k1, k2, k3, k4, k5, k6, k7, k8, k9⟩ := rr4.at (q := 0) (by simp)
      rw [Nat.zero_mul, Nat.add_zero] at k0 k1 k3
      have k0 : w4.cell? ⟨b, off, none⟩ = some (.int .i64 (K : Int)) := k0
      have k1 : w4.cell? ⟨b, off + 1, none⟩ = some (.int .u32 (f : Int)) := k1
      have k3 : w4.cell? ⟨b, off + 3, none⟩ = some (.slice At0 l.length ct0) := k3
      have hzt : RT w4 w4.heap.size At0 l.length ct0 l := hzt
      have hB2l := hB2.lt
      replace hB2 := hB2.below b5 hB2l
      replace hrt2 := hrt2.on b5
      replace b5 := b4.trans (b5.mono b4.size)
      have hTu := fun W h1 h2 => ref6_Tuples At0 l.length ct0 l A1 l.length c1 l W h1 h2 (by omega) (by omega)
      rw [decide_eq_true (rfl : l = l)] at hTu
      have hmul := fun p q w => mul_8n l.length p q (by omega) w
      have hadd := fun p q w => add_12n l.length n3 p q (by omega) HN3.out w
      have hBl := hB2.lt
      clear rq hL4 rr4 k2 k4 k5 k6 k7 k8 k9 b4 hB2l
      go_upto_region 9 with (fail)
      refine wp_region_tbl [.val (.int .i64 0), .val (.bool true), .val (.bool true), .val (.int .i64 0), .val (.bool true), .val (.bool true), .val (.bool true), .val (.slice A3 n3 c3), .val (.int .i64 (n3 : Nat)), .val (.pointer (some ⟨L, 3, none⟩)), .val (.slice A1 l.length c1), .val (.int .i64 (l.length : Nat)), .val (.int .i64 (8 * l.length : Nat)), .val (.int .i64 (n3 : Nat)), .val (.bool true), .val (.bool true), .val (.bool true), .val (.slice (some ⟨b, off, none⟩) 1 c4), .val (.int .i64 (1 : Nat)), .val (.bool true), .val (.bool true), .val (.bool true), .val (.slice (some ⟨b, off, none⟩) 1 c4), .val (.pointer (some ⟨b, off, none⟩)), .val (.pointer (some ⟨b, off, none⟩)), .val (.int .i64 (K : Int)), .val (.pointer (some ⟨L, 0, none⟩)), .val (.int .i64 (K : Int)), .val (.bool true), .val (.bool true), .val (.bool true), .val (.slice (some ⟨b, off, none⟩) 1 c4), .val (.pointer (some ⟨b, off, none⟩)), .val (.pointer (some ⟨b, off + 1, none⟩)), .val (.int .u32 (f : Int)), .val (.int .u32 (f : Int)), .val (.bool true), .val (.bool true), .val (.bool true), .val (.slice (some ⟨b, off, none⟩) 1 c4), .val (.pointer (some ⟨b, off, none⟩)), .val (.pointer (some ⟨b, off + 3, none⟩)), .val (.slice At0 l.length ct0), .val (.pointer (some ⟨L, 3, none⟩)), .val (.slice A1 l.length c1), .val (.bool true), .val (.bool true), .val (.bool true), .val (.bool true), .val (.bool true), .val (.bool true)] (by kernel_rfl) (by kernel_rfl) (by kernel_rfl) (AllObl.all ⟨?_, ?_, ?_, ?_, ?_, ?_, ?_, ?_, ?_, ?_, ?_, ?_, ?_, ?_, ?_, ?_, ?_, ?_, ?_, ?_, ?_, ?_, ?_, ?_, ?_, ?_, ?_, ?_, ?_, ?_, ?_, ?_, ?_, ?_, ?_, ?_, ?_, ?_, ?_, ?_, ?_, ?_, ?_, ?_, ?_, ?_, ?_, ?_, ?_, ?_, ?_, trivial⟩) ?_
      · exact Obl.move trivial _ (Or.inl rfl) (by kernel_rfl)
      · exact Obl.bin trivial .eql _ (.tmp 46) (.const (.int .i64 0)) _ rfl (.int .i64 0) (.int .i64 0) (.bool true) (by kernel_rfl) (by kernel_rfl) (fun w => by simp [eqGuard, go_sem]) (by kernel_rfl)
      · exact Obl.move trivial _ (Or.inl rfl) (by kernel_rfl)
      · exact Obl.move ⟨by kernel_rfl, by kernel_rfl, by kernel_rfl⟩ _ (Or.inl rfl) (by kernel_rfl)
      · exact Obl.bin ⟨by kernel_rfl, by kernel_rfl, by kernel_rfl⟩ .eql _ (.tmp 49) (.const (.int .i64 0)) _ rfl (.int .i64 0) (.int .i64 0) (.bool true) (by kernel_rfl) (by kernel_rfl) (fun w => by simp [eqGuard, go_sem]) (by kernel_rfl)
      · exact Obl.pick trivial _ _ _ rfl true (by kernel_rfl) (by kernel_rfl)
      · exact Obl.move trivial _ (Or.inl rfl) (by kernel_rfl)
      · exact Obl.move ⟨by kernel_rfl, by kernel_rfl, by kernel_rfl⟩ _ (Or.inl rfl) (by kernel_rfl)
      · exact Obl.lenV (x := (.tmp 53)) ⟨by kernel_rfl, by kernel_rfl, by kernel_rfl⟩ _ _ Try.underlying31 rfl (A3) (n3) (c3) (by kernel_rfl) (by kernel_rfl)
      · exact Obl.pure ⟨by kernel_rfl, by kernel_rfl, by kernel_rfl⟩ (.pointer (some ⟨L, 3, none⟩)) (by kernel_rfl) (fun ev w hb hx => by
          have e8 : ev (.tmp 8) = .pointer (some ⟨L, 0, none⟩) := holds_val (hx (.tmp 8)) (by kernel_rfl)
          simp [execOp, e8, go_sem])
      · exact Obl.pure ⟨by kernel_rfl, by kernel_rfl, by kernel_rfl⟩ (.slice A1 l.length c1) (by kernel_rfl) (fun ev w hb hx => by
          have e55 : ev (.tmp 55) = .pointer (some ⟨L, 3, none⟩) := holds_val (hx (.tmp 55)) (by kernel_rfl)
          have m3 := (blk10 (hB2.below ((drew_below _).trans hb) hBl)).2.2.2.1; simp [execOp, e55, go_sem, m3])
      · exact Obl.lenV (x := (.tmp 56)) ⟨by kernel_rfl, by kernel_rfl, by kernel_rfl⟩ _ _ Try.underlying28 rfl (A1) (l.length) (c1) (by kernel_rfl) (by kernel_rfl)
      · exact Obl.bin ⟨by kernel_rfl, by kernel_rfl, by kernel_rfl⟩ .mul _ (.const (.int .i64 8)) (.tmp 57) _ rfl (.int .i64 8) (.int .i64 (l.length : Nat)) (.int .i64 (8 * l.length : Nat)) (by kernel_rfl) (by kernel_rfl) (hmul _ _) (by kernel_rfl)
      · exact Obl.bin ⟨by kernel_rfl, by kernel_rfl, by kernel_rfl⟩ .add _ (.const (.int .i64 12)) (.tmp 58) _ rfl (.int .i64 12) (.int .i64 (8 * l.length : Nat)) (.int .i64 (n3 : Nat)) (by kernel_rfl) (by kernel_rfl) (hadd _ _) (by kernel_rfl)
      · exact Obl.bin ⟨by kernel_rfl, by kernel_rfl, by kernel_rfl⟩ .eql _ (.tmp 54) (.tmp 59) _ rfl (.int .i64 (n3 : Nat)) (.int .i64 (n3 : Nat)) (.bool true) (by kernel_rfl) (by kernel_rfl) (fun w => by simp [eqGuard, go_sem]) (by kernel_rfl)
      · exact Obl.pick trivial _ _ _ rfl true (by kernel_rfl) (by kernel_rfl)
      · exact Obl.move trivial _ (Or.inl rfl) (by kernel_rfl)
      · exact Obl.move ⟨by kernel_rfl, by kernel_rfl, by kernel_rfl⟩ _ (Or.inl rfl) (by kernel_rfl)
      · exact Obl.lenV (x := (.tmp 63)) ⟨by kernel_rfl, by kernel_rfl, by kernel_rfl⟩ _ _ Try.underlying36 rfl ((some ⟨b, off, none⟩)) (1) (c4) (by kernel_rfl) (by kernel_rfl)
      · exact Obl.bin ⟨by kernel_rfl, by kernel_rfl, by kernel_rfl⟩ .eql _ (.tmp 64) (.const (.int .i64 1)) _ rfl (.int .i64 (1 : Nat)) (.int .i64 1) (.bool true) (by kernel_rfl) (by kernel_rfl) (fun w => by simp [eqGuard, go_sem]) (by kernel_rfl)
      · exact Obl.pick trivial _ _ _ rfl true (by kernel_rfl) (by kernel_rfl)
      · exact Obl.move trivial _ (Or.inl rfl) (by kernel_rfl)
      · exact Obl.move ⟨by kernel_rfl, by kernel_rfl, by kernel_rfl⟩ _ (Or.inl rfl) (by kernel_rfl)
      · exact Obl.pure ⟨by kernel_rfl, by kernel_rfl, by kernel_rfl⟩ (.pointer (some ⟨b, off, none⟩)) (by kernel_rfl) (fun ev w hb hx => by
          have e68 : ev (.tmp 68) = .slice (some ⟨b, off, none⟩) 1 c4 := holds_val (hx (.tmp 68)) (by kernel_rfl)
          have k0 : ev (.const (.int .i64 0)) = (.int .i64 0) := holds_val (hx (.const (.int .i64 0))) (by kernel_rfl)
          simp [execOp, e68, k0, go_sem])
      · exact Obl.pure ⟨by kernel_rfl, by kernel_rfl, by kernel_rfl⟩ (.pointer (some ⟨b, off, none⟩)) (by kernel_rfl) (fun ev w hb hx => by
          have e69 : ev (.tmp 69) = .pointer (some ⟨b, off, none⟩) := holds_val (hx (.tmp 69)) (by kernel_rfl)
          simp [execOp, e69, go_sem])
      · exact Obl.pure ⟨by kernel_rfl, by kernel_rfl, by kernel_rfl⟩ (.int .i64 (K : Int)) (by kernel_rfl) (fun ev w hb hx => by
          have e70 : ev (.tmp 70) = .pointer (some ⟨b, off, none⟩) := holds_val (hx (.tmp 70)) (by kernel_rfl)
          have m0 := (((drew_below _).trans hb).cell (p := ⟨b, off, none⟩) hbb).trans k0; simp [execOp, e70, go_sem, m0])
      · exact Obl.pure ⟨by kernel_rfl, by kernel_rfl, by kernel_rfl⟩ (.pointer (some ⟨L, 0, none⟩)) (by kernel_rfl) (fun ev w hb hx => by
          have e8 : ev (.tmp 8) = .pointer (some ⟨L, 0, none⟩) := holds_val (hx (.tmp 8)) (by kernel_rfl)
          simp [execOp, e8, go_sem])
      · exact Obl.pure ⟨by kernel_rfl, by kernel_rfl, by kernel_rfl⟩ (.int .i64 (K : Int)) (by kernel_rfl) (fun ev w hb hx => by
          have e72 : ev (.tmp 72) = .pointer (some ⟨L, 0, none⟩) := holds_val (hx (.tmp 72)) (by kernel_rfl)
          have m3 := (blk10 (hB2.below ((drew_below _).trans hb) hBl)).1; simp [execOp, e72, go_sem, m3])
      · exact Obl.bin ⟨by kernel_rfl, by kernel_rfl, by kernel_rfl⟩ .eql _ (.tmp 71) (.tmp 73) _ rfl (.int .i64 (K : Int)) (.int .i64 (K : Int)) (.bool true) (by kernel_rfl) (by kernel_rfl) (fun w => by simp [eqGuard, go_sem]) (by kernel_rfl)
      · exact Obl.pick trivial _ _ _ rfl true (by kernel_rfl) (by kernel_rfl)
      · exact Obl.move trivial _ (Or.inl rfl) (by kernel_rfl)
      · exact Obl.move ⟨by kernel_rfl, by kernel_rfl, by kernel_rfl⟩ _ (Or.inl rfl) (by kernel_rfl)
      · exact Obl.pure ⟨by kernel_rfl, by kernel_rfl, by kernel_rfl⟩ (.pointer (some ⟨b, off, none⟩)) (by kernel_rfl) (fun ev w hb hx => by
          have e77 : ev (.tmp 77) = .slice (some ⟨b, off, none⟩) 1 c4 := holds_val (hx (.tmp 77)) (by kernel_rfl)
          have k0 : ev (.const (.int .i64 0)) = (.int .i64 0) := holds_val (hx (.const (.int .i64 0))) (by kernel_rfl)
          simp [execOp, e77, k0, go_sem])
      · exact Obl.pure ⟨by kernel_rfl, by kernel_rfl, by kernel_rfl⟩ (.pointer (some ⟨b, off + 1, none⟩)) (by kernel_rfl) (fun ev w hb hx => by
          have e78 : ev (.tmp 78) = .pointer (some ⟨b, off, none⟩) := holds_val (hx (.tmp 78)) (by kernel_rfl)
          simp [execOp, e78, go_sem])
      · exact Obl.pure ⟨by kernel_rfl, by kernel_rfl, by kernel_rfl⟩ (.int .u32 (f : Int)) (by kernel_rfl) (fun ev w hb hx => by
          have e79 : ev (.tmp 79) = .pointer (some ⟨b, off + 1, none⟩) := holds_val (hx (.tmp 79)) (by kernel_rfl)
          have m0 := (((drew_below _).trans hb).cell (p := ⟨b, off + 1, none⟩) hbb).trans k1; simp [execOp, e79, go_sem, m0])
      · exact Obl.move ⟨by kernel_rfl, by kernel_rfl, by kernel_rfl⟩ _ (Or.inl rfl) (by kernel_rfl)
      · exact Obl.bin ⟨by kernel_rfl, by kernel_rfl, by kernel_rfl⟩ .eql _ (.tmp 80) (.tmp 81) _ rfl (.int .u32 (f : Int)) (.int .u32 (f : Int)) (.bool true) (by kernel_rfl) (by kernel_rfl) (fun w => by simp [eqGuard, go_sem]) (by kernel_rfl)
      · exact Obl.pick trivial _ _ _ rfl true (by kernel_rfl) (by kernel_rfl)
      · exact Obl.move trivial _ (Or.inl rfl) (by kernel_rfl)
      · exact Obl.move ⟨by kernel_rfl, by kernel_rfl, by kernel_rfl⟩ _ (Or.inl rfl) (by kernel_rfl)
      · exact Obl.pure ⟨by kernel_rfl, by kernel_rfl, by kernel_rfl⟩ (.pointer (some ⟨b, off, none⟩)) (by kernel_rfl) (fun ev w hb hx => by
          have e85 : ev (.tmp 85) = .slice (some ⟨b, off, none⟩) 1 c4 := holds_val (hx (.tmp 85)) (by kernel_rfl)
          have k0 : ev (.const (.int .i64 0)) = (.int .i64 0) := holds_val (hx (.const (.int .i64 0))) (by kernel_rfl)
          simp [execOp, e85, k0, go_sem])
      · exact Obl.pure ⟨by kernel_rfl, by kernel_rfl, by kernel_rfl⟩ (.pointer (some ⟨b, off + 3, none⟩)) (by kernel_rfl) (fun ev w hb hx => by
          have e86 : ev (.tmp 86) = .pointer (some ⟨b, off, none⟩) := holds_val (hx (.tmp 86)) (by kernel_rfl)
          simp [execOp, e86, go_sem])
      · exact Obl.pure ⟨by kernel_rfl, by kernel_rfl, by kernel_rfl⟩ (.slice At0 l.length ct0) (by kernel_rfl) (fun ev w hb hx => by
          have e87 : ev (.tmp 87) = .pointer (some ⟨b, off + 3, none⟩) := holds_val (hx (.tmp 87)) (by kernel_rfl)
          have m0 := (((drew_below _).trans hb).cell (p := ⟨b, off + 3, none⟩) hbb).trans k3; simp [execOp, e87, go_sem, m0])
      · exact Obl.pure ⟨by kernel_rfl, by kernel_rfl, by kernel_rfl⟩ (.pointer (some ⟨L, 3, none⟩)) (by kernel_rfl) (fun ev w hb hx => by
          have e8 : ev (.tmp 8) = .pointer (some ⟨L, 0, none⟩) := holds_val (hx (.tmp 8)) (by kernel_rfl)
          simp [execOp, e8, go_sem])
      · exact Obl.pure ⟨by kernel_rfl, by kernel_rfl, by kernel_rfl⟩ (.slice A1 l.length c1) (by kernel_rfl) (fun ev w hb hx => by
          have e89 : ev (.tmp 89) = .pointer (some ⟨L, 3, none⟩) := holds_val (hx (.tmp 89)) (by kernel_rfl)
          have m3 := (blk10 (hB2.below ((drew_below _).trans hb) hBl)).2.2.2.1; simp [execOp, e89, go_sem, m3])
      · exact Obl.call ⟨by kernel_rfl, by kernel_rfl, by kernel_rfl⟩ 26 #[.tmp 88, .tmp 90] _ rfl Try.f26 Try.func26 (by kernel_rfl) (by kernel_rfl) (fun ev w hb hx => by
          have e88 : ev (.tmp 88) = .slice At0 l.length ct0 := holds_val (hx (.tmp 88)) (by kernel_rfl)
          have e90 : ev (.tmp 90) = .slice A1 l.length c1 := holds_val (hx (.tmp 90)) (by kernel_rfl)
          simp only [List.map_toArray, List.map_cons, List.map_nil, e88, e90]
          exact ((hTu w (hzt.on ((drew_below _).trans hb)) (hrt2.on ((drew_below _).trans hb))).mono fun _ _ hh => hh.ans).mono fun _ _ hh => Val.holds (by kernel_rfl) hh)
      · exact Obl.pick trivial _ _ _ rfl true (by kernel_rfl) (by kernel_rfl)
      · exact Obl.move trivial _ (Or.inl rfl) (by kernel_rfl)
      · exact Obl.call ⟨by kernel_rfl, by kernel_rfl, by kernel_rfl⟩ 15 #[] _ rfl Try.f15 Try.func15 (by kernel_rfl) (by kernel_rfl) (fun ev w hb hx => by
          simp only [List.map_toArray, List.map_nil]
          exact (known6 w).mono fun _ _ hh => Val.holds (by kernel_rfl) hh)
      · exact Obl.pick trivial _ _ _ rfl true (by kernel_rfl) (by kernel_rfl)
      · exact Obl.move trivial _ (Or.inr rfl) (by kernel_rfl)
      intro a w9 hb hsz hdf hold hv
      have h4 : a.tmps.getD 6 undef = .bool true := holds_val (hv 50 6 (by kernel_rfl)) (by kernel_rfl)
      obtain ⟨tm, df⟩ := a
      have hdf' : df = [] := hdf
      subst hdf'
      go_wp2
      go_ret
      exact ⟨congrArg _ h4, b5.drew.trans (hb.mono b5.size)⟩
end Go.Proofs.Ytnchgmemajmkjaa.RP
