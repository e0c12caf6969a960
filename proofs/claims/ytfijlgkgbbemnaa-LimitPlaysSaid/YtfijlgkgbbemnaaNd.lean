/- Contracts of the project's limit: Tick, Rate, Set. Contract of the project's limit: Tmmbr. Written by gen_lpj.py. -/
import Derived.Test.YtfijlgkgbbemnaaNc
import Derived.Test.YtfijlgkgbbemnaaNe
import Derived.Test.YtfijlgkgbbemnaaNl
import Derived.Test.YtfijlgkgbbemnaaNg
import Derived.Test.YtfijlgkgbbemnaaLmV
import Derived.Test.YtfijlgkgbbemnaaRegD
namespace Go.Proofs.Ytfijlgkgbbemnaa
open Go.RowKit
set_option linter.unusedVariables false
set_option linter.unusedSimpArgs false
set_option maxRecDepth 20000

set_option maxHeartbeats 1000000 in
theorem lp_tick {w : World} {G c rm : Nat} {v : Value} {E : Ents} (h : LpAt w G c rm v E) (hn : E.length ≤ 1000) (now : Int) :
    Calls Try.prog 17 #[.pointer (some ⟨G, 0, none⟩), .int .i64 now] w (fun e w' => e = .returned (.int .i64 ((E.length - (tickE E now).length : Nat) : Int)) ∧ ∃ v', LpAt w' G c rm v' (tickE E now) ∧ OnlyS (fun k => k = G ∨ v.ownBlock = some k) w w' ∧ ∀ k, v'.ownBlock = some k → v.ownBlock = some k) := by
  obtain ⟨A, ca, rfl, hca, hr, _⟩ := h.own.val
  have hb0 := belowA w (.cells #[.int .i64 now] 2)
  have hL := h.on hb0
  have hB := Blk.new w 2 #[.int .i64 now]
  have hls : w.heap.size < (w.alloc (.cells #[.int .i64 now] 2)).heap.size := by simp
  have HC := Lib.hid (lp_delete hL.own hn (hB.cell 0) hls (fun ad ha => by
    have := (own_block h.own ad ha).2
    omega))
  obtain ⟨⟨c0, c1, c2⟩, hf⟩ := hL.cells
  have HL := Lib.hid hL
  have HB := Lib.hid hb0
  have HT := Lib.hid (tickE_len E now)
  have HNE := Lib.hid h.ne
  have HGL := Lib.hid h.blk.lt
  clear h hb0 hL hB hls hr hf hca
  generalize hW : w.alloc (.cells #[.int .i64 now] 2) = W0 at HC c0 c1 c2 HL HB
  have HW := Lib.hid hW
  obtain ⟨n, hnn⟩ : ∃ n, n = E.length := ⟨_, rfl⟩
  have HN := Lib.hid hnn
  rw [← hnn] at HC c2 hn HT ⊢
  rw [← hW] at c0 c1 c2 HC
  obtain ⟨T, hT⟩ : ∃ T, T = tickE E now := ⟨_, rfl⟩
  rw [← hT] at HT ⊢
  obtain ⟨t, ht⟩ : ∃ t, t = T.length := ⟨_, rfl⟩
  rw [← ht] at HT ⊢
  have HTE := Lib.hid hT
  have HTL := Lib.hid ht
  clear hnn hW hT ht
  go_enter Try.func17, Try.ntmps17
  go_wp2_with fail
  ((with_reducible refine HC.out.mono ?_); rintro e W1 ⟨he, o1, ol⟩)
  rw [HW.out] at ol
  rw [← HTE.out, ← HTL.out] at he o1
  subst he
  have hGn : ¬ (Value.slice A E.length ca).ownBlock = some G := HNE.out
  have hbk : Blk W1 G 61 #[.int .i64 (c : Int), .int .u64 (rm : Int), .slice A E.length ca] := HL.out.blk.onlyS ol hGn
  have d2 := hbk.cell 2
  have f2 := hbk.frozen 2
  have HTT : Hid (Value.ownBlock (.slice A t ca) = Value.ownBlock (.slice A E.length ca)) := Lib.hid (by cases A <;> rfl)
  have HF : Hid (∃ v', LpAt (W1.setCell ⟨G, 2, none⟩ (.slice A t ca)) G c rm v' T ∧ OnlyS (fun k => k = G ∨ (Value.slice A E.length ca).ownBlock = some k) w (W1.setCell ⟨G, 2, none⟩ (.slice A t ca)) ∧ ∀ k, v'.ownBlock = some k → (Value.slice A E.length ca).ownBlock = some k) := Lib.hid (by
    have hset := Only.set G 2 W1 (.slice A t ca)
    refine ⟨.slice A t ca, ⟨hbk.set_ 2 _, o1.onlyS (OnlyS.one (S := fun k => k = G) hset rfl) fun k hk e => hGn (by rw [← HTT.out, ← e]; exact hk)⟩, ?_, fun k hk => HTT.out.symm.trans hk⟩
    have q1 : OnlyS (fun k => k = G ∨ (Value.slice A E.length ca).ownBlock = some k) W0 W1 := ol.more fun k hk => .inr hk
    have q2 : OnlyS (fun k => k = G ∨ (Value.slice A E.length ca).ownBlock = some k) w W1 := (OnlyS.of (S := fun k => k = G ∨ (Value.slice A E.length ca).ownBlock = some k) HB.out).trans q1 (fun _ h _ => h)
    exact q2.trans (OnlyS.one (S := fun k => k = G) hset rfl) (fun k hk _ => .inl hk))
  have hsub : IntKind.i64.wrap ((n : Int) - (t : Int)) = ((n - t : Nat) : Int) := by rw [IntKind.wrap_i64]; have := HT.out; omega
  clear o1 ol hbk hGn c0 c1 c2 HC
  rw [← HN.out] at d2 HF
  go_wp2_with fail
  go_ret
  exact ⟨by first | rfl | simp [hsub], HF.out⟩
theorem bytes_sti (n : Nat) (w : World) (hn : n < 18446744073709551616) : Calls Try.prog 31 #[.int .u64 (n : Int)] w (Sti (.int .i64 (btR n : Int)) w) := by
  go_enter Try.func31, Try.ntmps31
  go_wp2_with fail
  · have hv : (btR n : Int) = 1099511627776 := by unfold btR; omega
    go_ret
    rw [hv]
    exact ⟨rfl, rfl⟩
  · have hv : (btR n : Int) = (n : Int) / 8 := by unfold btR; omega
    go_ret
    rw [hv]
    exact ⟨rfl, rfl⟩
theorem own_base {w : World} {b b' size n : Nat} {e : TypeId} {v : Value} {xs : List Value} (h : w.ownsRow b e size v n xs) (hb : b' ≤ b) : w.ownsRow b' e size v n xs := by
  refine ⟨h.1, ?_⟩
  rcases h.2 with h | ⟨g, cap, cur, h1, h2, h3⟩
  · exact .inl h
  · exact .inr ⟨g, cap, cur, h1, Nat.le_trans hb h2, h3⟩
/-- What the REMB in bits is in bytes. -/
def RmB (rm : Nat) (rb : Option Nat) : Prop := rm < 18446744073709551616 ∧ ((rb = none ∧ rm = maxU) ∨ rb = some (btR rm))
theorem RmB.val {rm c : Nat} {rb : Option Nat} (h : RmB rm rb) (hc : c ≤ 1099511627776) : min c (btR rm) = rbC c rb := by
  rcases h.2 with ⟨rfl, rfl⟩ | rfl
  · show min c (btR maxU) = c
    have : btR maxU = 1099511627776 := by decide
    omega
  · rfl
set_option maxHeartbeats 1000000 in
theorem lp_rate {w : World} {G c rm : Nat} {v : Value} {E : Ents} {rb : Option Nat} (h : LpAt w G c rm v E) (hi : EntsOk E) (hc : c ≤ 1099511627776) (hrb : RmB rm rb) :
    Calls Try.prog 15 #[.pointer (some ⟨G, 0, none⟩)] w (AnsB (.int .i64 ((limV c rb E : Nat) : Int)) w) := by
  obtain ⟨⟨c0, c1, c2⟩, hf⟩ := h.cells
  have HQ := Lib.hid (fun W => bytes_sti rm W hrb.1)
  have HC : Hid (∀ k, Calls Try.prog 18 #[.pointer (some ⟨G, 0, none⟩)] (w.drewN k) (RowOut (w.drewN k) E.T)) := Lib.hid fun k => lp_tuples (h.on (belowDrewN w k)) (by have := hi.len; omega) hi.ins
  have HTI : Hid (∀ t ∈ E.T, t.In) := Lib.hid fun t ht => by
    obtain ⟨e, he, rfl⟩ := List.mem_map.1 ht
    exact (hi.ins e he).t
  have HTL : Hid (E.T.length = E.length ∧ E.length ≤ 6) := Lib.hid ⟨E.T_len, hi.len⟩
  have HV : Hid (limV c rb E = if E.length = 0 then rbC c rb else min (rbC c rb) (btR (minR (heldR E.T)))) := Lib.hid rfl
  have hm := hrb.val hc
  generalize rbC c rb = n1 at hm HV
  generalize limV c rb E = V at HV ⊢
  have HM := Lib.hid hm
  have q1 := min_i c (btR rm) n1 hm.symm
  have q2 := min_i2 c (btR rm) n1 hm.symm
  have q3 := min_n c (btR rm) n1 hm.symm
  have q4 := min_n2 c (btR rm) n1 hm.symm
  generalize btR rm = br at *
  clear hf h hi hrb hm
  go_enter Try.func15, Try.ntmps15
  go_upto_region 1 with (fail)
  go_quiet ((go_at_call 31; refine Calls.quiet_of_same ((HQ.out _).mono fun _ _ h => ⟨h.1, h.2.symm⟩)))
  go_upto_region 2 with (fail)
  have hcq := HC.out nq
  have HB0 := Lib.hid (belowDrewN w nq)
  generalize w.drewN nq = W0 at hcq HB0 ⊢
  have HC0 := Lib.hid hcq
  clear hcq HC c0 c1 c2 q1 q2 q3 q4
  go_wp2_with fail
  ((with_reducible refine HC0.out.mono ?_); rintro e W1 ⟨v1, rfl, o1, b1⟩)
  obtain ⟨A, ca, rfl, hr, hb⟩ := o1.rt HTI.out
  have HR := Lib.hid (bd_rate hr (by have := HTL.out; omega))
  have HB := Lib.hid (HB0.out.trans (b1.mono HB0.out.size))
  obtain ⟨n, hnn⟩ : ∃ n, n = E.T.length := ⟨_, rfl⟩
  have HN := Lib.hid hnn
  rw [← hnn] at HR ⊢
  clear o1 b1 hr hb HC0 HB0 hnn
  by_cases hn0 : E.length = 0
  · have hrv : rateV (heldR E.T) = .tuple #[.int .u64 0, .bool false] := rateV_no (by unfold heldR; rw [List.length_map, E.T_len]; exact hn0)
    have hVn : V = n1 := by rw [HV.out, if_pos hn0]
    subst hVn
    rw [hrv] at HR
    clear hrv hn0 HV
    go_wp2_with fail
    ((with_reducible refine HR.out.mono ?_); rintro e W2 ⟨rfl, b2⟩)
    have HF := Lib.hid (HB.out.trans (b2.mono HB.out.size))
    clear b2 HR
    go_wp2_with fail
    go_ret
    exact ⟨rfl, HF.out⟩
  · have hrv : rateV (heldR E.T) = .tuple #[.int .u64 ((minR (heldR E.T) : Nat) : Int), .bool true] := rateV_yes (by unfold heldR; rw [List.length_map, E.T_len]; exact hn0)
    have hVn : V = min n1 (btR (minR (heldR E.T))) := by rw [HV.out, if_neg hn0]
    have hml := minR_lt (heldR E.T)
    rw [hrv] at HR
    generalize minR (heldR E.T) = mr at hVn hml HR
    have HQ2 := Lib.hid (fun W => bytes_sti mr W hml)
    generalize btR mr = b2 at hVn HQ2
    have q1 := min_i n1 b2 V hVn
    have q2 := min_i2 n1 b2 V hVn
    have q3 := min_n n1 b2 V hVn
    have q4 := min_n2 n1 b2 V hVn
    clear hrv hn0 HV hVn hml HM
    go_wp2_with fail
    ((with_reducible refine HR.out.mono ?_); rintro e W2 ⟨rfl, b2'⟩)
    have HF := Lib.hid (HB.out.trans (b2'.mono HB.out.size))
    clear b2' HR
    go_wp2_with fail
    ((with_reducible refine (HQ2.out _).mono ?_); rintro e W3 ⟨rfl, rfl⟩)
    go_wp2_with fail
    go_ret
    exact ⟨by first | rfl | simp [q1], HF.out⟩
theorem lp_set {w : World} {G c rm : Nat} {v : Value} {E : Ents} (h : LpAt w G c rm v E) (hn : E.length ≤ 1000) (hi : ∀ e ∈ E, e.In) :
    Calls Try.prog 19 #[.pointer (some ⟨G, 0, none⟩)] w (SetOut E.T w) := by
  have HC := Lib.hid (lp_tuples h hn hi)
  have HTI : Hid (∀ t ∈ E.T, t.In) := Lib.hid fun t ht => by
    obtain ⟨e, he, rfl⟩ := List.mem_map.1 ht
    exact (hi e he).t
  have HL : Hid (E.T.length ≤ 1000) := Lib.hid (by rw [E.T_len]; exact hn)
  clear h hi hn
  generalize E.T = L at *
  go_enter Try.func19, Try.ntmps19
  go_wp2_with fail
  ((with_reducible refine HC.out.mono ?_); rintro e W1 ⟨v1, rfl, o1, b1⟩)
  obtain ⟨A, ca, rfl, hr, hb⟩ := o1.rt HTI.out
  have HS := Lib.hid (bd_set hr (by have := HL.out; omega))
  have HB := Lib.hid b1
  clear o1 b1 hr hb HC
  obtain ⟨n, hnn⟩ : ∃ n, n = L.length := ⟨_, rfl⟩
  rw [← hnn] at HS ⊢
  clear hnn
  go_wp2_with fail
  ((with_reducible refine HS.out.mono ?_); rintro e W2 ⟨v2, R, rfl, hbs, o2, b2⟩)
  have HF : Hid (SetOut L w (.returned v2) W2) := Lib.hid ⟨v2, R, rfl, hbs, own_base o2 HB.out.size, HB.out.trans (b2.mono HB.out.size)⟩
  clear hbs o2 b2 HS
  go_wp2_with fail
  go_ret
  exact HF.out
end Go.Proofs.Ytfijlgkgbbemnaa
namespace Go.Proofs.Ytfijlgkgbbemnaa
open Go.RowKit
set_option linter.unusedVariables false
set_option linter.unusedSimpArgs false
set_option maxRecDepth 20000

/-- A new block of a row; a new literal of one. -/
def nwP (w0 : World) (cs : Array Value) : ClF (tkF w0) := .pred (fun v W => ∃ g, v = .pointer (some ⟨g, 0, none⟩) ∧ w0.heap.size ≤ g ∧ Blk W g enT cs) (fun v a b _ hf _ h => by
  obtain ⟨g, e, h1, h2⟩ := h
  exact ⟨g, e, h1, (hf.block g h2.lt).trans h2⟩)
theorem nwP_of {w0 : World} {cs : Array Value} {c : ClF (tkF w0)} {v : Value} {W : World} (h : c.holds v W) (e : c = nwP w0 cs) : ∃ g, v = .pointer (some ⟨g, 0, none⟩) ∧ w0.heap.size ≤ g ∧ Blk W g enT cs := by subst e; exact h
def nwS (T : Nat → Prop) (w0 : World) (cs : Array Value) : ClF (ovF T w0) := .pred (fun v W => ∃ g, v = .slice (some ⟨g, 0, none⟩) 1 1 ∧ w0.heap.size ≤ g ∧ Blk W g enT cs) (fun v a b _ hf _ h => by
  obtain ⟨g, e, h1, h2⟩ := h
  exact ⟨g, e, h1, (hf.block g h2.lt).trans h2⟩)
theorem nwS_of {T : Nat → Prop} {w0 : World} {cs : Array Value} {c : ClF (ovF T w0)} {v : Value} {W : World} (h : c.holds v W) (e : c = nwS T w0 cs) : ∃ g, v = .slice (some ⟨g, 0, none⟩) 1 1 ∧ w0.heap.size ≤ g ∧ Blk W g enT cs := by subst e; exact h
def inP (T : Nat → Prop) (w0 : World) (R : Ents) : ClF (ovF T w0) := .pred (fun v W => OwnEn W 0 v R ∧ ∀ k, v.ownBlock = some k → T k ∨ w0.heap.size ≤ k) (fun v a b _ hf _ h => ⟨h.1.on hf, h.2⟩)
theorem inP_of {T : Nat → Prop} {w0 : World} {R : Ents} {c : ClF (ovF T w0)} {v : Value} {W : World} (h : c.holds v W) (e : c = inP T w0 R) : OwnEn W 0 v R ∧ ∀ k, v.ownBlock = some k → T k ∨ w0.heap.size ≤ k := by subst e; exact h
def TmOut (G c rm : Nat) (v : Value) (E : Ents) (x : Ent) (w : World) (e : Ending) (w' : World) : Prop :=
  e = .returned (.bool (okE E x.t.owner)) ∧ ∃ v', LpAt w' G c rm v' (putE E x) ∧ OnlyS (fun k => k = G ∨ v.ownBlock = some k) w w' ∧ ∀ k, v'.ownBlock = some k → v.ownBlock = some k ∨ w.heap.size ≤ k
theorem okE_here {E : Ents} {o : Nat} (h : hereE E o = true) : okE E o = true := by unfold okE; rw [h]; rfl
theorem okE_else {E : Ents} {o : Nat} (h : hereE E o = false) : okE E o = decide (E.length < 6) := by unfold okE; rw [h]; rfl
theorem lp_end (now : Int) (h : I64 now) (w : World) : Calls Try.prog 28 #[.int .i64 now] w (Sti (.int .i64 (untilE now)) w) := by
  have hu : untilE now = min now 9223372036853775807 + 1000000 := by
    unfold untilE addC po
    unfold I64 at h
    split <;> omega
  obtain ⟨u, hU⟩ : ∃ u, u = untilE now := ⟨_, rfl⟩
  rw [← hU] at hu ⊢
  unfold I64 at h
  by_cases h1 : now < 9223372036853775807
  · have y1 : IntKind.i64.wrap (now + 1000000) = u := by rw [IntKind.wrap_i64]; omega
    have n1 : ¬ (9223372036853775807 : Int) ≤ now := by omega
    clear hu hU h
    go_enter Try.func28, Try.ntmps28
    go_wp2_with fail
    go_ret
    exact ⟨rfl, rfl⟩
  · have y1 : u = 9223372036854775807 := by omega
    subst y1
    clear hu hU h
    have h2 : 9223372036853775807 < now ∨ now = 9223372036853775807 := by omega
    rcases h2 with h2 | rfl
    · have h3 : (9223372036853775807 : Int) ≤ now := by omega
      go_enter Try.func28, Try.ntmps28
      go_wp2_with fail
      go_ret
      exact ⟨rfl, rfl⟩
    clear h1
    go_enter Try.func28, Try.ntmps28
    go_wp2_with fail
    go_ret
    exact ⟨rfl, rfl⟩
set_option maxHeartbeats 4000000 in
theorem lp_tmmbr {w : World} {G c rm : Nat} {v0 : Value} {E : Ents} (h : LpAt w G c rm v0 E) (hok : EntsOk E) {o r : Nat} {v : Int} (hin : (⟨o, r, v⟩ : Tup).In) {now : Int} (hnow : I64 now) :
    Calls Try.prog 14 #[.pointer (some ⟨G, 0, none⟩), .agg #[.int .u32 (o : Int), .int .u64 (r : Int), .int .i64 v], .int .i64 now] w (TmOut G c rm v0 E ⟨⟨o, r, v⟩, untilE now⟩ w) := by
  have HA : Hid (∀ W, Calls Try.prog 28 #[.int .i64 now] W (Sti (.int .i64 (untilE now)) W)) := Lib.hid fun W => lp_end now hnow W
  have HU : Hid (I64 (untilE now)) := Lib.hid (untilE_i64 hnow)
  generalize untilE now = u at HA HU ⊢
  have hb1 := belowA w (.cells #[.int .u32 (o : Int), .int .u64 (r : Int), .int .i64 v] 31)
  have hB1 := Blk.new w 31 #[.int .u32 (o : Int), .int .u64 (r : Int), .int .i64 v]
  have hL1 := h.on hb1
  have hs1 : (w.alloc (.cells #[.int .u32 (o : Int), .int .u64 (r : Int), .int .i64 v] 31)).heap.size = w.heap.size + 1 := by simp
  have HGL := Lib.hid h.blk.lt
  have HOK := Lib.hid hok
  have HON := Lib.hid hin.owner
  have HIN := Lib.hid hin
  clear h hok hin hnow
  go_enter Try.func14, Try.ntmps14
  go_upto_region 1 with (fail)
  generalize hw1 : w.alloc (.cells #[.int .u32 (o : Int), .int .u64 (r : Int), .int .i64 v] 31) = w1 at hb1 hB1 hL1 hs1 ⊢
  obtain ⟨g1, hg1⟩ : ∃ g1, g1 = w.heap.size := ⟨_, rfl⟩
  rw [← hg1] at hB1 hs1 HGL ⊢
  have HS := Lib.hid (⟨hg1, hs1⟩ : g1 = w.heap.size ∧ w1.heap.size = g1 + 1)
  have HB1 := Lib.hid hb1
  have HL1 := Lib.hid hL1
  have HT : Hid (∀ W, Below w1.heap.size w1 W → W.cell? ⟨g1, 0, none⟩ = some (.int .u32 (o : Int)) ∧ W.cell? ⟨g1, 1, none⟩ = some (.int .u64 (r : Int)) ∧ W.cell? ⟨g1, 2, none⟩ = some (.int .i64 v)) := Lib.hid fun W hW => by
    have := hB1.below hW hB1.lt
    exact ⟨this.cell 0, this.cell 1, this.cell 2⟩
  clear hw1 hb1 hB1 hL1 hs1 hg1
  refine wp_region_ft (F := tkF w1) 5 [.val (.agg #[.int .u32 (o : Int), .int .u64 (r : Int), .int .i64 v]), .val (.int .i64 now), .val (.int .i64 u), .val (.agg #[.int .u32 (o : Int), .int .u64 (r : Int), .int .i64 v, .int .i64 u]), nwP w1 #[.int .u32 0, .int .u64 0, .int .i64 0, .int .i64 0]]
    (by kernel_rfl) (by kernel_rfl) (by kernel_rfl) (by decide) (by kernel_rfl) (Below.refl _ _) (AllOblF.upto ⟨?_, ?_, ?_, ?_, ?_, trivial⟩) ?_
  · refine OblF.pure rfl (.agg #[.int .u32 (o : Int), .int .u64 (r : Int), .int .i64 v]) (by kernel_rfl) rfl fun ev W hI hf hx => ?_
    have e4 : ev (.tmp 4) = .pointer (some ⟨g1, 0, none⟩) := holds_valF (hx (.tmp 4)) (by kernel_rfl)
    obtain ⟨d0, d1, d2⟩ := HT.out W hI
    simp [execOp, e4, go_sem, d0, d1, d2]
  · exact OblF.move rfl _ (Or.inl rfl) (by kernel_rfl) rfl
  · refine OblF.call rfl 28 #[.tmp 11] _ rfl Try.f28 Try.func28 (by kernel_rfl) (by kernel_rfl) rfl fun ev W hI hf hx => ?_
    have e11 : ev (.tmp 11) = .int .i64 now := holds_valF (hx (.tmp 11)) (by kernel_rfl)
    simp only [List.map_toArray, List.map_cons, List.map_nil, e11]
    refine (HA.out W).mono ?_
    rintro e W' ⟨rfl, rfl⟩
    exact ⟨_, rfl, hI, Below.refl _ _, rfl⟩
  · refine OblF.pure rfl (.agg #[.int .u32 (o : Int), .int .u64 (r : Int), .int .i64 v, .int .i64 u]) (by kernel_rfl) rfl fun ev W hI hf hx => ?_
    have e10 : ev (.tmp 10) = .agg #[.int .u32 (o : Int), .int .u64 (r : Int), .int .i64 v] := holds_valF (hx (.tmp 10)) (by kernel_rfl)
    have e12 : ev (.tmp 12) = .int .i64 u := holds_valF (hx (.tmp 12)) (by kernel_rfl)
    simp [execOp, e10, e12, go_sem]
  · refine OblF.step rfl fun ev W hI hf hx => ?_
    have hbW := belowA W (.cells #[.int .u32 0, .int .u64 0, .int .i64 0, .int .i64 0] 64)
    refine ⟨.pointer (some ⟨W.heap.size, 0, none⟩), W.alloc (.cells #[.int .u32 0, .int .u64 0, .int .i64 0, .int .i64 0] 64), ?_, (show Below w1.heap.size w1 _ from (show Below w1.heap.size w1 W from hI).trans (hbW.mono hI.size)), hbW, ⟨W.heap.size, rfl, (show Below w1.heap.size w1 W from hI).size, Blk.new _ _ _⟩⟩
    simp [execOp, go_sem]
  intro aa W hI hf hsz hdf hold hv
  have v13 : aa.tmps.getD 13 undef = .agg #[.int .u32 (o : Int), .int .u64 (r : Int), .int .i64 v, .int .i64 u] := holds_valF (hv 3 (by decide)) (by kernel_rfl)
  obtain ⟨g7, v7, hg7, hB7⟩ := nwP_of (cs := #[.int .u32 0, .int .u64 0, .int .i64 0, .int .i64 0]) (hv 4 (by decide)) (by kernel_rfl)
  have v7' : aa.tmps.getD 7 undef = .pointer (some ⟨g7, 0, none⟩) := v7
  have ha := act_puts [10, 11, 12, 13, 7] (by kernel_rfl) hsz hdf hold
  simp only [putAll, v13, v7'] at ha
  generalize aa.tmps.getD 10 undef = x10 at ha
  generalize aa.tmps.getD 11 undef = x11 at ha
  generalize aa.tmps.getD 12 undef = x12 at ha
  subst ha
  have z0 := hB7.cell 0
  have z1 := hB7.cell 1
  have z2 := hB7.cell 2
  have z3 := hB7.cell 3
  have y0 := hB7.frozen 0
  have y1 := hB7.frozen 1
  have y2 := hB7.frozen 2
  have y3 := hB7.frozen 3
  have HB7 : Hid (Blk ((((W.setCell ⟨g7, 0, none⟩ (.int .u32 (o : Int))).setCell ⟨g7, 1, none⟩ (.int .u64 (r : Int))).setCell ⟨g7, 2, none⟩ (.int .i64 v)).setCell ⟨g7, 3, none⟩ (.int .i64 u)) g7 enT #[.int .u32 (o : Int), .int .u64 (r : Int), .int .i64 v, .int .i64 u] ∧ Below w1.heap.size w1 ((((W.setCell ⟨g7, 0, none⟩ (.int .u32 (o : Int))).setCell ⟨g7, 1, none⟩ (.int .u64 (r : Int))).setCell ⟨g7, 2, none⟩ (.int .i64 v)).setCell ⟨g7, 3, none⟩ (.int .i64 u))) := Lib.hid (by
    refine ⟨by simpa using (((hB7.set_ 0 _).set_ 1 _).set_ 2 _).set_ 3 _, ?_⟩
    have hI : Below w1.heap.size w1 W := hI
    exact (((hI.trans ((Only.set g7 0 W _).below hg7 hI.size)).trans ((Only.set g7 1 _ _).below hg7 (by simpa [World.setCell] using hI.size))).trans ((Only.set g7 2 _ _).below hg7 (by simpa [World.setCell] using hI.size))).trans ((Only.set g7 3 _ _).below hg7 (by simpa [World.setCell] using hI.size)))
  clear v13 v7 v7' hold hv hsz hdf hf hI hB7
  go_upto_region 2 with (fail)
  generalize ((((W.setCell ⟨g7, 0, none⟩ (.int .u32 (o : Int))).setCell ⟨g7, 1, none⟩ (.int .u64 (r : Int))).setCell ⟨g7, 2, none⟩ (.int .i64 v)).setCell ⟨g7, 3, none⟩ (.int .i64 u)) = W2 at HB7 ⊢
  have c0 := (HT.out W2 HB7.out.2).1
  have HG7 := Lib.hid hg7
  clear z0 z1 z2 z3 y0 y1 y2 y3 hg7
  have HP := Lib.hid (lp_place (HL1.out.on HB7.out.2) o HON.out (by have := HOK.out.len; omega) HOK.out.ins)
  have hid : hereE E o = true ∨ hereE E o = false := by cases hereE E o <;> simp
  go_wp2_with fail
  ((with_reducible refine HP.out.mono ?_); rintro e W3 ⟨rfl, b3⟩)
  have HB3 : Hid (Blk W3 g7 enT #[.int .u32 (o : Int), .int .u64 (r : Int), .int .i64 v, .int .i64 u] ∧ Below w1.heap.size w1 W3) := Lib.hid ⟨HB7.out.1.below b3 HB7.out.1.lt, HB7.out.2.trans (b3.mono HB7.out.2.size)⟩
  clear b3 HP HB7 c0 HT HA
  have HL3 := Lib.hid (HL1.out.on HB3.out.2)
  have HOS : Hid (OnlyS (fun k => k = G ∨ v0.ownBlock = some k) w W3) := Lib.hid ((OnlyS.of (S := fun k => k = G ∨ v0.ownBlock = some k) HB1.out).trans (OnlyS.of (S := fun k => k = G ∨ v0.ownBlock = some k) HB3.out.2) (fun _ h _ => h))
  have HWS : Hid (w.heap.size ≤ w1.heap.size ∧ w1.heap.size ≤ W3.heap.size) := Lib.hid ⟨HB1.out.size, HB3.out.2.size⟩
  have k0 := HB3.out.1.cell 0
  have k1 := HB3.out.1.cell 1
  have k2 := HB3.out.1.cell 2
  have k3 := HB3.out.1.cell 3
  obtain ⟨⟨c0, c1, c2⟩, cf⟩ := HL3.out.cells
  obtain ⟨A, ca, rfl, hca, hrx, _⟩ := HL3.out.own.val
  have HRX := Lib.hid hrx
  obtain ⟨x, hx⟩ : ∃ x : Ent, x = ⟨⟨o, r, v⟩, u⟩ := ⟨_, rfl⟩
  have HX := Lib.hid hx
  have hxo : x.t.owner = o := by rw [hx]
  rw [← hx]
  obtain ⟨n, hnn⟩ : ∃ n, n = E.length := ⟨_, rfl⟩
  have HN := Lib.hid hnn
  rw [← hnn] at c2 hca
  have hql := posE_le E o
  rw [← hnn] at hql
  clear hrx hx hnn
  rcases hid with hh | hh
  · obtain ⟨hq, hqo⟩ := hereE_get hh
    have hok := okE_here hh
    have hput : putE E x = E.set (posE E o) x := by rw [← hxo] at hh ⊢; exact putE_here hh
    rw [hh]
    generalize posE E o = q at *
    obtain ⟨b, off, rfl, hbl, p0, p1, p2, p3⟩ := rx_en HRX.out hq
    have hfz := HL3.out.own.froz
    have f0 := hfz (off + q * 4)
    have f1 := hfz (off + q * 4 + 1)
    have f2 := hfz (off + q * 4 + 2)
    have f3 := hfz (off + q * 4 + 3)
    obtain ⟨so, sn⟩ := HL3.out.own.setAll (x := x) hq
    have HF : Hid (TmOut G c rm (.slice (some ⟨b, off, none⟩) E.length ca) E x w (.returned (.bool true)) (setEn W3 b off q x).drew) := Lib.hid (by
      have hbG : b ≠ G := fun e => HL3.out.ne (by rw [e]; rfl)
      unfold TmOut
      rw [hxo, hok, hput]
      have hbd : Only b W3 (setEn W3 b off q x).drew := sn.drew
      refine ⟨rfl, .slice (some ⟨b, off, none⟩) E.length ca, ⟨HL3.out.blk.onlyS (OnlyS.one (S := fun k => k = b) hbd rfl) hbG.symm, ?_⟩, HOS.out.trans (OnlyS.one (S := fun k => k = b) hbd rfl) (fun k hk _ => .inr (by rw [hk]; rfl)), fun k hk => .inl hk⟩
      have : OwnEn (setEn W3 b off q x) 0 (.slice (some ⟨b, off, none⟩) E.length ca) (E.set q x) := so
      exact this)
    have g2 : (q : Int) < (n : Int) := by have := HN.out; omega
    generalize E[q] = ye at *
    clear hfz so sn hbl hok hput hqo hh hql hq
    rw [HX.out] at HF
    unfold setEn at HF
    go_upto_region 5 with (fail)
    go_region
    go_wp2_with fail
    go_ret
    exact HF.out
  · have hoke := okE_else hh
    rw [hh]
    by_cases hn6 : n < 6
    · have hok : okE E o = true := by rw [hoke, ← HN.out]; simpa using hn6
      have hput : putE E x = insE E (posE E o) x := by rw [← hxo] at hh ⊢; exact putE_room hh (by have := HN.out; omega)
      have HF0 : Hid (∀ W' v', OwnEn W' 0 v' (putE E x) → Blk W' G 61 #[.int .i64 (c : Int), .int .u64 (rm : Int), v'] → OnlyS (fun k => k = G ∨ (Value.slice A E.length ca).ownBlock = some k) w W' → (∀ k, v'.ownBlock = some k → (Value.slice A E.length ca).ownBlock = some k ∨ w.heap.size ≤ k) → TmOut G c rm (.slice A E.length ca) E x w (.returned (.bool true)) W') := Lib.hid (fun W' v' h1 h2 h3 h4 => by
        unfold TmOut
        rw [hxo, hok]
        exact ⟨rfl, v', ⟨h2, h1⟩, h3, h4⟩)
      rw [hput] at HF0
      have HQL : Hid (posE E o ≤ n) := Lib.hid (by omega)
      generalize posE E o = q at HF0 HQL ⊢
      have hlt5 : ¬ (6 : Int) ≤ (n : Int) := by omega
      have d5 : decide ((6 : Int) ≤ (n : Int)) = false := by simpa using hlt5
      rw [HX.out] at HF0
      obtain ⟨T, hT⟩ : ∃ T : Nat → Prop, T = fun k => (Value.slice A E.length ca).ownBlock = some k := ⟨_, rfl⟩
      have HTG : Hid (¬ T G ∧ ∀ k, T k → k < W3.heap.size) := Lib.hid (by
        rw [hT]
        exact ⟨HL3.out.ne, fun k hk => (HL3.out.own.lt hk).2⟩)
      have HX3 : Hid (∀ W, OnlyS T W3 W → W.cell? ⟨G, 2, none⟩ = some (.slice A n ca) ∧ W.cell? ⟨g7, 0, none⟩ = some (.int .u32 (o : Int)) ∧ W.cell? ⟨g7, 1, none⟩ = some (.int .u64 (r : Int)) ∧ W.cell? ⟨g7, 2, none⟩ = some (.int .i64 v) ∧ W.cell? ⟨g7, 3, none⟩ = some (.int .i64 u)) := Lib.hid fun W hW => by
        have h1 := (HL3.out.blk.onlyS hW HTG.out.1).cell 2
        rw [← HN.out] at h1
        have h2 := HB3.out.1.onlyS hW (fun h => by
          rw [hT] at h
          have := (HL1.out.own.lt h).2
          have := HG7.out
          omega)
        exact ⟨h1, h2.cell 0, h2.cell 1, h2.cell 2, h2.cell 3⟩
      have HTT := Lib.hid hT
      clear hput hok hoke hh hql hT
      go_upto_region 3 with (fail)
      clear c0 c1 c2 cf k0 k1 k2 k3
      refine wp_region_d (F := ovF T W3) (fun _ _ => True) (fun _ _ => false) (fun i => i == 8) (fun _ W => OwnEn W 0 (.slice A n ca) E) 9 [.val (.pointer (some ⟨G, 0, none⟩)), .val (.pointer (some ⟨G, 0, none⟩)), .val (.pointer (some ⟨G, 0, none⟩)), .val (.pointer (some ⟨G, 2, none⟩)), .val (.slice A n ca), .val (.int .i64 (q : Int)), .val (.agg #[.int .u32 (o : Int), .int .u64 (r : Int), .int .i64 v, .int .i64 u]), nwS T W3 #[.int .u32 (o : Int), .int .u64 (r : Int), .int .i64 v, .int .i64 u], inP T W3 (insE E q x)]
        (fun _ _ _ _ => trivial) (by kernel_rfl) (by kernel_rfl) (by kernel_rfl) (by decide) (by kernel_rfl) (OnlyS.of (belowDrewN W3 1)) (fun i hi => by
          have hz : OwnEn W3.drew 0 (.slice A n ca) E := by rw [HN.out]; exact HL3.out.own.on (belowDrewN W3 1)
          exact hz) (fun i a b _ _ hF _ hp => OwnEn.on hp hF) (AllOblD.upto ⟨?_, ?_, ?_, ?_, ?_, ?_, ?_, ?_, ?_, trivial⟩) ?_ ?_
      · intro _
        exact OblD.move rfl _ (Or.inl rfl) (by kernel_rfl) rfl
      · intro _
        exact OblD.move rfl _ (Or.inl rfl) (by kernel_rfl) rfl
      · intro _
        refine OblD.pure rfl (.pointer (some ⟨G, 0, none⟩)) (by kernel_rfl) rfl fun ev W hI hx => ?_
        have e22 : ev (.tmp 22) = .pointer (some ⟨G, 0, none⟩) := holds_valF (hx (.tmp 22)) (by kernel_rfl)
        simp [execOp, e22, go_sem]
      · intro _
        refine OblD.pure rfl (.pointer (some ⟨G, 2, none⟩)) (by kernel_rfl) rfl fun ev W hI hx => ?_
        have e23 : ev (.tmp 23) = .pointer (some ⟨G, 0, none⟩) := holds_valF (hx (.tmp 23)) (by kernel_rfl)
        simp [execOp, e23, go_sem]
      · intro _
        refine OblD.pure rfl (.slice A n ca) (by kernel_rfl) rfl fun ev W hI hx => ?_
        have e24 : ev (.tmp 24) = .pointer (some ⟨G, 2, none⟩) := holds_valF (hx (.tmp 24)) (by kernel_rfl)
        have d2 := (HX3.out W hI).1
        simp [execOp, e24, go_sem, d2]
      · intro _
        exact OblD.move rfl _ (Or.inl rfl) (by kernel_rfl) rfl
      · intro _
        refine OblD.pure rfl (.agg #[.int .u32 (o : Int), .int .u64 (r : Int), .int .i64 v, .int .i64 u]) (by kernel_rfl) rfl fun ev W hI hx => ?_
        have e7 : ev (.tmp 7) = .pointer (some ⟨g7, 0, none⟩) := holds_valF (hx (.tmp 7)) (by kernel_rfl)
        obtain ⟨d0, d1, d2, d3⟩ := (HX3.out W hI).2
        simp [execOp, e7, go_sem, d0, d1, d2, d3]
      · intro _
        refine OblD.step rfl fun ev W hI hx => ?_
        have e27 : ev (.tmp 27) = .agg #[.int .u32 (o : Int), .int .u64 (r : Int), .int .i64 v, .int .i64 u] := holds_valF (hx (.tmp 27)) (by kernel_rfl)
        have hbW := belowA W (.cells #[.int .u32 (o : Int), .int .u64 (r : Int), .int .i64 v, .int .i64 u] 64)
        have hI : OnlyS T W3 W := hI
        refine ⟨.slice (some ⟨W.heap.size, 0, none⟩) 1 1, W.alloc (.cells #[.int .u32 (o : Int), .int .u64 (r : Int), .int .i64 v, .int .i64 u] 64), ?_, (show OnlyS T W3 _ from hI.trans (OnlyS.of (S := T) hbW) (fun _ h _ => h)), hbW, ⟨W.heap.size, rfl, hI.size, Blk.new _ _ _⟩⟩
        simp [execOp, e27, go_sem]
      · exact fun hh => absurd hh (by decide)
      · intro i oo him hsp hoo
        have hi8 : i = 8 := by simpa using hsp
        subst hi8
        obtain rfl := (Option.some.inj hoo).symm
        refine OblDX.call rfl 30 #[.tmp 25, .tmp 26, .tmp 28] _ rfl Try.f30 Try.func30 (by kernel_rfl) (by kernel_rfl) rfl fun ev W hI hpre hx => ?_
        have hpre : OwnEn W 0 (.slice A n ca) E := hpre
        have hI : OnlyS T W3 W := hI
        have e25 : ev (.tmp 25) = .slice A n ca := holds_valF (hx (.tmp 25)) (by kernel_rfl)
        have e26 : ev (.tmp 26) = .int .i64 (q : Int) := holds_valF (hx (.tmp 26)) (by kernel_rfl)
        obtain ⟨g8, e28, hg8, hB8⟩ := nwS_of (cs := #[.int .u32 (o : Int), .int .u64 (r : Int), .int .i64 v, .int .i64 u]) (hx (.tmp 28)) (by kernel_rfl)
        simp only [List.map_toArray, List.map_cons, List.map_nil, e25, e26, e28]
        have hTb : ∀ ad, A = some ad → ad.block < W3.heap.size := fun ad ha => (own_block HL3.out.own ad ha).2
        refine (lp_insert (x := x) hpre HN.out HQL.out (by omega) (show Blk W g8 enT x.cells.toArray by rw [HX.out]; exact hB8) (fun ad ha => by have := hTb ad ha; omega)).mono ?_
        rintro e W' ⟨v', rfl, o', only', blk'⟩
        have only2 : OnlyS T W W' := by rw [HTT.out, ← HN.out]; exact only'
        refine ⟨v', rfl, (show OnlyS T W3 W' from hI.trans only2 (fun k hk _ => hk)), ?_, ?_, ⟨o', fun k hk => ?_⟩⟩
        · intro j uu hj hd hdep hhh
          by_cases hj9 : j < 9
          · have : j = 7 ∨ j = 0 ∨ j = 1 ∨ j = 2 ∨ j = 3 ∨ j = 4 ∨ j = 5 ∨ j = 6 := by omega
            rcases this with rfl | rfl | rfl | rfl | rfl | rfl | rfl | rfl
            · obtain ⟨g9, e9, hg9, hB9⟩ := nwS_of (cs := #[.int .u32 (o : Int), .int .u64 (r : Int), .int .i64 v, .int .i64 u]) hhh rfl
              exact ⟨g9, e9, hg9, (only2.block g9 hB9.lt (fun ht => by have := HTG.out.2 _ ht; omega)).trans hB9⟩
            all_goals exact hhh
          · rw [tbl_outF (n := 9) rfl (by omega)]
            trivial
        · intro j hj hsj _ _
          exact absurd (by simpa using hsj) hj
        · rcases blk' with h1 | h1
          · left
            rw [HTT.out, ← HN.out]
            show (Value.slice A n ca).ownBlock = some k
            rw [← h1]
            exact hk
          · right
            rw [h1] at hk
            injection hk with hk
            have := hI.size
            omega
      intro aa W4 hI hsz hdf hold hv hpv
      have hI : OnlyS T W3 W4 := hI
      have v21 : aa.tmps.getD 21 undef = .pointer (some ⟨G, 0, none⟩) := holds_valF (hv 0 (by decide) (by intro k; rfl)) (by kernel_rfl)
      obtain ⟨q29, r29⟩ := inP_of (T := T) (w0 := W3) (R := insE E q x) (hv 8 (by decide) (by intro k; rfl)) (by kernel_rfl)
      have o29 : OwnEn W4 0 (aa.tmps.getD 29 undef) (insE E q x) := q29
      have t29 : ∀ k, (aa.tmps.getD 29 undef).ownBlock = some k → T k ∨ W3.heap.size ≤ k := r29
      clear q29 r29
      have ha := act_puts [21, 22, 23, 24, 25, 26, 27, 28, 29, 30, 31] (by kernel_rfl) hsz hdf hold
      simp only [putAll, v21] at ha
      generalize aa.tmps.getD 22 undef = x22 at ha
      generalize aa.tmps.getD 23 undef = x23 at ha
      generalize aa.tmps.getD 24 undef = x24 at ha
      generalize aa.tmps.getD 25 undef = x25 at ha
      generalize aa.tmps.getD 26 undef = x26 at ha
      generalize aa.tmps.getD 27 undef = x27 at ha
      generalize aa.tmps.getD 28 undef = x28 at ha
      generalize aa.tmps.getD 30 undef = x30 at ha
      generalize aa.tmps.getD 31 undef = x31 at ha
      generalize aa.tmps.getD 29 undef = v29 at ha o29 t29
      subst ha
      have hbk := HL3.out.blk.onlyS hI HTG.out.1
      have d2 := hbk.cell 2
      have f2 := hbk.frozen 2
      have hset := Only.set G 2 W4 v29
      have hty : enT ≠ 61 := by decide
      have hnG : v29.ownBlock ≠ some G := own_blk_ne (b := 0) (s := 4) (n := (insE E q x).length) (e := enT) (xs := cellsEn (insE E q x)) o29 hbk hty
      have hvG : ∀ k, v29.ownBlock = some k → ¬ k = G := fun k hk e => hnG (hk.trans (congrArg some e))
      have hTe : ∀ k, T k = ((Value.slice A E.length ca).ownBlock = some k) := fun k => congrFun HTT.out k
      have s1 : OnlyS (fun k => k = G ∨ (Value.slice A E.length ca).ownBlock = some k) W3 W4 := hI.more (fun k hk => Or.inr ((hTe k).mp hk))
      have s2 : OnlyS (fun k => k = G ∨ (Value.slice A E.length ca).ownBlock = some k) w W4 := HOS.out.trans s1 (fun _ h _ => h)
      have s3 : OnlyS (fun k => k = G ∨ (Value.slice A E.length ca).ownBlock = some k) w (W4.setCell ⟨G, 2, none⟩ v29) := s2.trans (OnlyS.one (S := fun k => k = G) hset rfl) (fun k hk _ => .inl hk)
      have s4 : ∀ k, v29.ownBlock = some k → (Value.slice A E.length ca).ownBlock = some k ∨ w.heap.size ≤ k := fun k hk => by
        rcases t29 k hk with h1 | h1
        · exact .inl ((hTe k).mp h1)
        · exact .inr (Nat.le_trans (Nat.le_trans HWS.out.1 HWS.out.2) h1)
      have s5 : OwnEn (W4.setCell ⟨G, 2, none⟩ v29) 0 v29 (insE E q x) := o29.onlyS (OnlyS.one (S := fun k => k = G) hset rfl) hvG
      rw [HX.out] at s5
      have s6 : Blk (W4.setCell ⟨G, 2, none⟩ v29) G 61 #[.int .i64 (c : Int), .int .u64 (rm : Int), v29] := hbk.set_ 2 v29
      have HF : Hid (TmOut G c rm (.slice A E.length ca) E ⟨⟨o, r, v⟩, u⟩ w (.returned (.bool true)) (W4.setCell ⟨G, 2, none⟩ v29)) := Lib.hid (HF0.out _ v29 s5 s6 s3 s4)
      clear hTe hset hvG hnG hty s1 s2 s3 s4 s5 s6
      obtain ⟨A9, c9, e9, l9, r9, b9⟩ := o29.val
      obtain ⟨m9, hm9⟩ : ∃ m9, m9 = (insE E q x).length := ⟨_, rfl⟩
      rw [← hm9] at e9
      clear l9 r9 b9 hm9
      subst e9
      clear v21 hold hv hpv hsz hdf hI hbk o29 t29
      go_wp2_with fail
      go_ret
      exact HF.out
    · have hok : okE E o = false := by rw [hoke, ← HN.out]; simpa using hn6
      have hput : putE E x = E := by rw [← hxo] at hh; exact putE_full hh (by have := HN.out; omega)
      have HF : Hid (TmOut G c rm (.slice A E.length ca) E x w (.returned (.bool false)) W3) := Lib.hid (by
        unfold TmOut
        rw [hxo, hok, hput]
        exact ⟨rfl, _, HL3.out, HOS.out, fun k hk => .inl hk⟩)
      have hlt5 : (6 : Int) ≤ (n : Int) := by omega
      have d5 : decide ((6 : Int) ≤ (n : Int)) = true := by simpa using hlt5
      rw [HX.out] at HF
      clear hput hok hoke hh hql
      go_wp2_with fail
      go_ret
      exact HF.out
end Go.Proofs.Ytfijlgkgbbemnaa
