/- SeqOnce's walk. -/
import Derived.Test.YtmkbbndfdgnakaaSqE
import Derived.Test.YtmkbbndfdgnakaaRi
import Derived.Test.YtmkbbndfdgnakaaRk
import Derived.Maps.OwnSet
import Derived.Maps.OwnOps
namespace Go.Proofs.Ytmkbbndfdgnakaa
open Go.RowKit Go.Maps
set_option linter.unusedVariables false
set_option linter.unusedSimpArgs false
set_option maxRecDepth 20000

theorem lawI : Keyed Try.prog 2 := int_keyed Try.underlying2
theorem zeroJ (w : World) : (zeroValue 3).run Try.prog w = .ok (.int .i64 0) w := by kernel_rfl
theorem wfI {k : Int} (h : I64 k) : (Lit.int .i64 k).wf = true := by
  unfold I64 at h
  simp [Lit.wf, IntKind.min, IntKind.max, IntKind.signed, IntKind.bits]
  omega
def one0 (b : Bool) : Int := if b then 1 else 0
/-- The map counts the numbers of the row, once each. -/
structure MapL (L : List Int) (D : DataW Unit) : Prop where
  map : IsMap D
  look : ∀ x : Int, D.atKey (.int .i64 x) (.lit (.int .i64 0)) = .lit (.int .i64 (one0 (decide (x ∈ L))))
theorem MapL.nil : MapL [] (.map []) := ⟨isMap_empty, fun _ => rfl⟩
theorem MapL.put {L : List Int} {D : DataW Unit} (h : MapL L D) (x : Int) : MapL (L ++ [x]) (D.put (.int .i64 x) (.lit (.int .i64 1))) := by
  refine ⟨h.map.put _ _, fun y => ?_⟩
  by_cases e : y = x
  · subst e
    rw [atKey_put_same h.map (by trivial)]
    simp [one0]
  · rw [atKey_put_other (by intro h2; injection h2; omega), h.look]
    congr 2
    simp [one0, e]
abbrev MapOf (w : World) (Mb n : Nat) (D : DataW Unit) : Prop := w.ownsMap Try.prog 2 (plainElem Try.prog 3) Mb n D
theorem mapOf_onlyS {w w' : World} {Mb n : Nat} {D : DataW Unit} {S : Nat → Prop} (h : MapOf w Mb n D) (ho : OnlyS S w w') (hs : ¬ S Mb) : MapOf w' Mb n D := by
  have hlt := h.lt
  obtain ⟨es, clock, h1, h2⟩ := h
  exact ⟨es, clock, (ho.block Mb hlt hs).trans h1, h2⟩
theorem mapOf_look {w : World} {Mb n : Nat} {D : DataW Unit} {L : List Int} (h : MapOf w Mb n D) (hL : MapL L D) {x : Int} (hx : I64 x) {b : Bool} (hb : decide (x ∈ L) = b) : (Instr.lookup 37 (.map (some Mb)) (.int .i64 x) false).run Try.prog w = .ok (.int .i64 (one0 b)) w := by
  obtain ⟨c, hrun, hat, _⟩ := h.lookup_int lawI Try.underlying37 Try.underlying3 (zeroJ w) (keyOf_int_mk Try.underlying2 (wfI hx))
  rw [hL.look, hb] at hat
  injection hat with hat
  injection hat with _ hat
  rw [hrun, hat]
/-! ### How many were passed over -/
def missN (L : List Int) (f : Int) : Nat → Nat
  | 0 => 0
  | j + 1 => missN L f j + (if f + (j : Int) ∈ L then 0 else 1)
theorem countP_step {L : List Int} (hn : L.Nodup) (f t : Int) (hft : f ≤ t) : (L.countP fun y => decide (f ≤ y) && decide (y < t + 1)) = (L.countP fun y => decide (f ≤ y) && decide (y < t)) + (if t ∈ L then 1 else 0) := by
  induction L with
  | nil => rfl
  | cons a r ih =>
    have hc := List.nodup_cons.1 hn
    have ih := ih hc.2
    rw [List.countP_cons, List.countP_cons, ih]
    by_cases e : a = t
    · subst e
      have hni : ¬ a ∈ r := hc.1
      rw [if_neg hni, if_pos List.mem_cons_self]
      simp
      omega
    · have hif : (if t ∈ a :: r then 1 else 0) = (if t ∈ r then 1 else 0) := by
        by_cases h : t ∈ r
        · rw [if_pos h, if_pos (List.mem_cons_of_mem a h)]
        · rw [if_neg h, if_neg (fun h1 => by
            rcases List.mem_cons.1 h1 with h2 | h2
            · exact e h2.symm
            · exact h h2)]
      rw [hif]
      have hd : (decide (f ≤ a) && decide (a < t + 1)) = (decide (f ≤ a) && decide (a < t)) := by
        have : (a < t + 1) ↔ (a < t) := by omega
        simp only [this]
      rw [hd]
      omega
theorem missN_eq {L : List Int} (hn : L.Nodup) (f : Int) : ∀ j : Nat, missN L f j + (L.countP fun y => decide (f ≤ y) && decide (y < f + (j : Int))) = j
  | 0 => by
    have h0 : (L.countP fun y => decide (f ≤ y) && decide (y < f + ((0 : Nat) : Int))) = 0 := by
      rw [List.countP_eq_zero]
      intro y hy hcon
      simp at hcon
      omega
    rw [h0]
    rfl
  | j + 1 => by
    have ih := missN_eq hn f j
    have h1 := countP_step hn f (f + (j : Int)) (by omega)
    rw [show f + ((j + 1 : Nat) : Int) = f + (j : Int) + 1 by omega, h1]
    unfold missN
    split <;> omega
theorem missN_lost {s : Sn} {m : Nat} (h : SnOk s m) (hl : 0 ≤ s.last) {j : Nat} (hj : s.first + (j : Int) = s.last + 1) : (missN s.L s.first j : Int) = lostS s := by
  have h1 := missN_eq h.nod s.first j
  have h2 : (s.L.countP fun y => decide (s.first ≤ y) && decide (y < s.first + (j : Int))) = hadS s := by
    unfold hadS
    refine List.countP_congr fun y hy => ?_
    have := h.hi y hy
    simp
    omega
  rw [h2] at h1
  unfold lostS
  rw [if_neg (by omega)]
  omega
/-! ### What stands between two rounds -/
structure Onc (w : World) (G Mb : Nat) (f : Int) (q : Nat) (t : Int) (s : Sn) (S : Nat → Prop) (W : World) : Prop where
  sq : Sq1 w G s q S W
  mp : ∃ D, MapOf W Mb q D ∧ MapL s.L D
  sep : ¬ S Mb
  lo : w.heap.size ≤ Mb
  fst : 40000 ≤ f ∧ f ≤ 56383
  zero : q = 0 → s = newS ∧ t = f
  more : 0 < q → s.first = f ∧ f ≤ s.last ∧ t ≤ s.last ∧ s.last ≤ t + 2 * (q : Int)
  at1 : f - 2 * (q : Int) ≤ t
  at2 : t ≤ f + 5 * (q : Int)
theorem Onc.on {w W W' : World} {G Mb q : Nat} {f t : Int} {s : Sn} {S : Nat → Prop} (h : Onc w G Mb f q t s S W) (hb : Below W.heap.size W W') : Onc w G Mb f q t s S W' :=
  ⟨h.sq.on hb, by
    obtain ⟨D, h1, h2⟩ := h.mp
    exact ⟨D, mapOf_onlyS h1 (OnlyS.of (S := fun _ => False) hb) (fun h => h), h2⟩, h.sep, h.lo, h.fst, h.zero, h.more, h.at1, h.at2⟩
theorem Onc.ext {w W : World} {G Mb q : Nat} {f t t' : Int} {s : Sn} {S : Nat → Prop} (h : Onc w G Mb f q t s S W) (hq : q ≤ 100) (h0 : q = 0 → t' = t) (h1 : t - 2 ≤ t' ∧ t' ≤ t + 5) {k : Nat} (hk : (k : Int) = t' % 65536) : ext16 s.last k = t' := by
  have hf := h.fst
  have a1 := h.at1
  have a2 := h.at2
  by_cases hz : q = 0
  · obtain ⟨rfl, rfl⟩ := h.zero hz
    have := h0 hz
    unfold ext16 nextI
    rw [if_pos (by simp [newS]), hk]
    omega
  · have hm := h.more (by omega)
    unfold ext16
    rw [hk]
    exact ext16_near (by omega) (by omega) (by omega) (by omega) (by omega)
/-- What the law says of Add. -/
theorem Onc.okx {w W : World} {G Mb q : Nat} {f t : Int} {s : Sn} {S : Nat → Prop} (h : Onc w G Mb f q t s S W) {x : Int} (hx : 0 ≤ x) : okX s x = (!decide (x ∈ s.L) && decide (s.last - 64 < x)) := by
  by_cases hin : x ∈ s.L
  · have := h.sq.ok.hi x hin
    have hlo := h.sq.ok.lo x hin
    rw [(add_no (s := s) (by omega) this (.inr hin)).2]
    simp [hin]
  · cases hk : okX s x with
    | true =>
      have := okX_iff.1 hk
      have h64 : s.last - 64 < x := by
        rcases this with h1 | h1 | h1 <;> omega
      simp [hin, h64]
    | false =>
      have hn : ¬ (s.last < 0 ∨ s.last < x ∨ (s.last - x ≤ 63 ∧ x ∉ s.L)) := fun e => by rw [← okX_iff, hk] at e; cases e
      have h64 : ¬ s.last - 64 < x := fun h2 => hn (.inr (by
        by_cases h3 : s.last < x
        · exact .inl h3
        · exact .inr ⟨by omega, hin⟩))
      simp [hin, h64]
/-- A number was seen. -/
theorem Onc.yes {w W W2 W3 : World} {G Mb q : Nat} {f t t' : Int} {s : Sn} {S S2 : Nat → Prop} {D : DataW Unit} (h : Onc w G Mb f q t s S W) (hq : q ≤ 100) (h0 : q = 0 → t' = t) (h1 : t - 2 ≤ t' ∧ t' ≤ t + 5) (hok : okX s t' = true)
    (hs : Sq1 w G (addX s t') (q + 1) S2 W2) (hS : ¬ S2 Mb) (hm : MapOf W3 Mb (q + 1) (D.put (.int .i64 t') (.lit (.int .i64 1)))) (hD : MapL s.L D) (hg : W2.grownBy W3 (some Mb)) : Onc w G Mb f (q + 1) t' (addX s t') S2 W3 := by
  have hf := h.fst
  have a1 := h.at1
  have a2 := h.at2
  have e : addX s t' = ⟨if s.last < 0 then t' else s.first, max s.last t', s.L ++ [t']⟩ := by unfold addX; rw [if_pos hok]
  have ho : OnlyS (fun k => k = Mb) W2 W3 := ⟨hg.os, hg.tape, hg.output, hg.size, fun k hk hn => hg.block k hk (fun e => hn (by injection e))⟩
  refine ⟨⟨hs.sq.keep ho (fun k hk e => hS (e ▸ hk)), hs.ok, hs.lo, hs.below.trans (ho.below (fun k e => by rw [e]; exact h.lo) hs.below.size)⟩, ⟨_, hm, by rw [e]; exact hD.put t'⟩, hS, h.lo, hf, fun h => absurd h (by omega), fun _ => ?_, ?_, ?_⟩
  · rw [e]
    by_cases hz : q = 0
    · obtain ⟨rfl, rfl⟩ := h.zero hz
      have := h0 hz
      rw [if_pos (show newS.last < 0 by decide)]
      simp only [newS]
      omega
    · have hm := h.more (by omega)
      simp only
      rw [if_neg (by omega)]
      omega
  · omega
  · omega
/-- A number was not. -/
theorem Onc.no {w W W2 : World} {G Mb q : Nat} {f t t' : Int} {s : Sn} {S S2 : Nat → Prop} (h : Onc w G Mb f q t s S W) (hq : q ≤ 100) (h0 : q = 0 → t' = t) (h1 : t - 2 ≤ t' ∧ t' ≤ t + 5) (hok : okX s t' = false)
    (hs : Sq1 w G (addX s t') (q + 1) S2 W2) (hS : ¬ S2 Mb) (hm : ∃ D, MapOf W2 Mb q D ∧ MapL s.L D) : Onc w G Mb f (q + 1) t' s S2 W2 := by
  have a1 := h.at1
  have a2 := h.at2
  have e : addX s t' = s := by unfold addX; rw [hok]; simp
  rw [e] at hs
  obtain ⟨D, m1, m2⟩ := hm
  have hn : ¬ (s.last < 0 ∨ s.last < t' ∨ (s.last - t' ≤ 63 ∧ t' ∉ s.L)) := fun e => by rw [← okX_iff, hok] at e; cases e
  have n1 : ¬ s.last < 0 := fun h => hn (.inl h)
  have n2 : ¬ s.last < t' := fun h => hn (.inr (.inl h))
  have hz : q ≠ 0 := fun hz => by
    obtain ⟨rfl, _⟩ := h.zero hz
    simp [newS] at n1
  have hm := h.more (by omega)
  exact ⟨hs, ⟨D, m1.mono (Nat.le_succ _), m2⟩, hS, h.lo, h.fst, fun h => absurd h (by omega), fun _ => ⟨hm.1, hm.2.1, by omega, by omega⟩, by omega, by omega⟩
theorem sqx_out {w0 W W' : World} {G m : Nat} {s : Sn} {S : Nat → Prop} {e : Ending} {x : Int} (h : Sq1 w0 G s m S W) (ho : SqOut G s x S W e W') (hx0 : 0 ≤ x) (hx1 : x ≤ s.last + 65536) : e = .returned (.tuple #[.int .i64 x, .bool (okX s x)]) ∧ ∃ S', Sq1 w0 G (addX s x) (m + 1) S' W' ∧ (∀ k, S' k → S k ∨ W.heap.size ≤ k) ∧ OnlyS S W W' := by
  obtain ⟨h1, S', h2, h3, h4⟩ := ho
  exact ⟨h1, S', ⟨h2, addX_ok h.ok hx0 hx1, fun k hk => by
    rcases h3 k hk with h5 | h5
    · exact h.lo k h5
    · exact Nat.le_trans h.below.size h5, h.below.trans (h4.below h.lo h.below.size)⟩, h3, h4⟩
theorem max_at (a b : Int) : (if a < b then b else a) = max a b := by split <;> omega

set_option maxHeartbeats 2000000 in
theorem seqOnce_walk (fi : Int) (A : Option Addr) (n c : Nat) (w : World) (hfi : (Lit.int .u16 fi).wf = true) (h : RI w w.heap.size A n c) (hn : n ≤ 281474976710656) : Calls Try.prog 6 #[.int .u16 fi, .slice A n c] w (Yes w) := by
  obtain ⟨f1, hf1, hf1l⟩ := and16_at fi (m := 16383) (M := 16383) rfl (by omega)
  obtain ⟨f, hf⟩ : ∃ f, f = 40000 + (f1 : Int) := ⟨_, rfl⟩
  have yf : IntKind.i64.wrap (40000 + (f1 : Int)) = f := by rw [hf, IntKind.wrap_i64]; omega
  have yf1 : IntKind.i64.wrap (f1 : Int) = (f1 : Int) := by rw [IntKind.wrap_i64]; omega
  have hfb : 40000 ≤ f ∧ f ≤ 56383 := by omega
  have HI := Lib.hid h
  have HF := Lib.hid hfb
  have hmm := @run_makeMap Try.prog
  clear h hfi hf hfb hf1l
  go_enter Try.func6, Try.ntmps6
  go_wp2_with fail
  refine (sq_new _).mono ?_
  rintro e w1 ⟨G, S, rfl, p0, hS, b0⟩
  have HP : Hid (Onc w G w1.heap.size f 0 f newS S (w1.alloc (.map #[] 0))) := Lib.hid (by
    have bA := (Below.refl _ w1).alloc (Nat.le_refl _) (.map #[] 0)
    exact ⟨(⟨p0, newS_ok, hS, b0⟩ : Sq1 w G newS 0 S w1).on bA, ⟨_, World.ownsMap_made _ _ _ _, MapL.nil⟩, fun h => by have := p0.lt h; omega, b0.size, HF.out, fun _ => ⟨rfl, rfl⟩, fun h => absurd h (by omega), by omega, by omega⟩)
  clear p0 hS b0
  go_upto_region 5 with (fail)
  generalize w1.alloc (.map #[] 0) = W1 at HP ⊢
  generalize w1.heap.size = Mb at HP ⊢
  clear hmm
  go_wp2_with fail
  clear hf1 yf yf1
  go_loopw [8, 9, 10] (fun a t i wr => (∃ (q : Nat) (x l : Int), q ≤ 100 ∧ i = .int .i64 (q : Int) ∧ a = .int .i64 x ∧ t = .int .i64 l ∧ -1 ≤ l ∧ l ≤ 200000 ∧ 30000 ≤ x ∧ x ≤ 60000 ∧ Hid (∃ s S, Onc w G Mb f q x s S wr ∧ l = s.last))) (fun _ _ i _ => 100 - (intOf i).toNat)
  case atStart => exact ⟨0, f, -1, by omega, rfl, rfl, rfl, by omega, by omega, by have := HF.out; omega, by have := HF.out; omega, Lib.hid ⟨_, _, HP.out, rfl⟩⟩
  case round =>
    obtain ⟨q, t, l, hq, rfl, rfl, rfl, hl1, hl2, ht1, ht2, HQ⟩ := hrel
    clear HP
    obtain ⟨s, S, hs, hls⟩ := HQ.out
    have HS := Lib.hid hs
    have HLS := Lib.hid hls
    clear hs hls HQ
    by_cases hlt : q < n ∧ q < 100
    · obtain ⟨h1, h2⟩ := hlt
      have g1 : decide ((q : Int) < (n : Int)) = true := by simp; omega
      have g1' : (q : Int) < (n : Int) := by omega
      have g2 : decide ((q : Int) < 100) = true := by simp; omega
      have g2' : (q : Int) < 100 := by omega
      by_cases hz : q = 0
      · have gz : decide (0 < (q : Int)) = false := by simp; omega
        have gz' : ¬ 0 < (q : Int) := by omega
        obtain ⟨tp, htp⟩ : ∃ tp, tp = t := ⟨_, rfl⟩
        have h0 : q = 0 → tp = t := fun _ => htp
        have hb : t - 2 ≤ tp ∧ tp ≤ t + 5 := by omega
        rw [← htp]
        clear htp hz
        obtain ⟨ky, ky1, ky2, ky3⟩ := u16_of tp
        have hx := HS.out.ext (by omega) h0 hb ky3
        have hadd := sq_add HS.out.sq.sq HS.out.sq.ok (by omega) ky2
        rw [hx] at hadd
        have hx1 : tp ≤ s.last + 65536 := by
          rw [← hx]
          exact ext16_le HS.out.sq.ok.low (by have := HS.out.sq.ok.top; omega) ky2
        have hB : 30000 ≤ tp ∧ tp ≤ 60000 := by have := HS.out.at1; have := HS.out.at2; have := HS.out.fst; omega
        have HA := Lib.hid (⟨h0, hb, hx1⟩ : _ ∧ _ ∧ _)
        have HC := Lib.hid hadd
        clear hx hadd ky2 ky3 h0 hb hx1
        go_wp2_with fail
        refine HC.out.mono ?_
        rintro e w3 ho
        obtain ⟨rfl, S3, h3, hS3, ho3⟩ := sqx_out HS.out.sq ho (by omega) HA.out.2.2
        obtain ⟨D, hm, hD⟩ := HS.out.mp
        have m3 := mapOf_onlyS hm ho3 HS.out.sep
        have sep3 : ¬ S3 Mb := fun h => by
          rcases hS3 Mb h with h5 | h5
          · exact HS.out.sep h5
          · have := hm.lt
            omega
        have hok := HS.out.okx (x := tp) (by omega)
        rw [← HLS.out] at hok
        have H3 := Lib.hid (⟨h3, sep3, m3, hD⟩ : _ ∧ _ ∧ _ ∧ _)
        clear ho h3 hS3 ho3 hm m3 sep3 HC
        by_cases hin : tp ∈ s.L
        · have hc1 := mapOf_look H3.out.2.2.1 H3.out.2.2.2 (x := tp) (by unfold I64; omega) (b := true) (by simpa using hin)
          have hc1 : (Instr.lookup 37 (.map (some Mb)) (.int .i64 tp) false).run Try.prog w3 = .ok (.int .i64 1) w3 := hc1
          have hk : okX s tp = false := by rw [hok]; simp [hin]
          rw [hk]
          have HK := Lib.hid hk
          clear hok hin hk hD
          go_wp2_with fail
          have HN := Lib.hid (HS.out.no (by omega) HA.out.1 HA.out.2.1 HK.out H3.out.1 H3.out.2.1 ⟨D, H3.out.2.2⟩)
          have hsl : addX s tp = s := by unfold addX; rw [HK.out]; simp
          have HSL := Lib.hid hsl
          clear hsl hc1
          go_roundw
          case rel => exact ⟨q + 1, tp, l, by omega, by go_num, rfl, rfl, hl1, hl2, by omega, by omega, Lib.hid ⟨s, S3, HN.out, HLS.out⟩⟩
          case measure => simp [intOf]; omega
        · have hc1 := mapOf_look H3.out.2.2.1 H3.out.2.2.2 (x := tp) (by unfold I64; omega) (b := false) (by simpa using hin)
          have hc1 : (Instr.lookup 37 (.map (some Mb)) (.int .i64 tp) false).run Try.prog w3 = .ok (.int .i64 0) w3 := hc1
          by_cases h64 : l - 64 < tp
          · have hk : okX s tp = true := by rw [hok]; simp [hin, h64]
            rw [hk]
            have HK := Lib.hid hk
            have HY : Hid (keyOf Try.prog 2 (.int .i64 tp) = some (.int .i64 tp)) := Lib.hid (keyOf_int_mk Try.underlying2 (wfI (by unfold I64; omega)))
            have hI1 : I64 1 := by unfold I64; omega
            have HI1 := Lib.hid (wfI hI1)
            clear hok hin hk hD hI1
            by_cases hmx : l < tp
            · have gm : decide (l < tp) = true := by simp; omega
              go_wp2_with (at_mapUpdate; refine wpList_mapUpdate_own _ rfl _ _ _ 37 rfl 2 3 lawI Try.underlying37 _ Mb q D rfl H3.out.2.2.1 (by unfold maxLen; omega) _ _ _ rfl rfl HY.out _ [] (plainElem_int Try.underlying3 HI1.out) ?_; intro w4 hown4 hgrow4)
              have HN := Lib.hid (HS.out.yes (by omega) HA.out.1 HA.out.2.1 HK.out H3.out.1 H3.out.2.1 hown4 H3.out.2.2.2 hgrow4)
              have hsl : tp = (addX s tp).last := by unfold addX; rw [HK.out]; simp only [if_true]; rw [← HLS.out]; omega
              have HSL := Lib.hid hsl
              clear hsl hc1 hown4 hgrow4
              go_roundw
              case rel => exact ⟨q + 1, tp, tp, by omega, by go_num, rfl, rfl, by omega, by omega, by omega, by omega, Lib.hid ⟨_, S3, HN.out, HSL.out⟩⟩
              case measure => simp [intOf]; omega
            · have gm : decide (l < tp) = false := by simp; omega
              go_wp2_with (at_mapUpdate; refine wpList_mapUpdate_own _ rfl _ _ _ 37 rfl 2 3 lawI Try.underlying37 _ Mb q D rfl H3.out.2.2.1 (by unfold maxLen; omega) _ _ _ rfl rfl HY.out _ [] (plainElem_int Try.underlying3 HI1.out) ?_; intro w4 hown4 hgrow4)
              have HN := Lib.hid (HS.out.yes (by omega) HA.out.1 HA.out.2.1 HK.out H3.out.1 H3.out.2.1 hown4 H3.out.2.2.2 hgrow4)
              have hsl : l = (addX s tp).last := by unfold addX; rw [HK.out]; simp only [if_true]; rw [← HLS.out]; omega
              have HSL := Lib.hid hsl
              clear hsl hc1 hown4 hgrow4
              go_roundw
              case rel => exact ⟨q + 1, tp, l, by omega, by go_num, rfl, rfl, by omega, by omega, by omega, by omega, Lib.hid ⟨_, S3, HN.out, HSL.out⟩⟩
              case measure => simp [intOf]; omega
          · have hk : okX s tp = false := by rw [hok]; simp [hin, h64]
            rw [hk]
            have HK := Lib.hid hk
            clear hok hin hk hD
            go_wp2_with fail
            have HN := Lib.hid (HS.out.no (by omega) HA.out.1 HA.out.2.1 HK.out H3.out.1 H3.out.2.1 ⟨D, H3.out.2.2⟩)
            clear hc1
            go_roundw
            case rel => exact ⟨q + 1, tp, l, by omega, by go_num, rfl, rfl, hl1, hl2, by omega, by omega, Lib.hid ⟨s, S3, HN.out, HLS.out⟩⟩
            case measure => simp [intOf]; omega
      · have gz : decide (0 < (q : Int)) = true := by simp; omega
        have gz' : 0 < (q : Int) := by omega
        obtain ⟨bA, off, rfl, hbA, hc⟩ := (HI.out.keep HS.out.sq.below).2 (by omega)
        obtain ⟨z, _, x0⟩ := hc q h1
        obtain ⟨k, hk, hkl⟩ := bits_and_at z (m := 7) (M := 7) rfl (by omega)
        obtain ⟨tp, htp⟩ : ∃ tp, tp = t + (k : Int) - 2 := ⟨_, rfl⟩
        have y1 : IntKind.i64.wrap (t + (k : Int) - 2) = tp := by rw [htp, IntKind.wrap_i64]; omega
        have h0 : q = 0 → tp = t := fun h => absurd h hz
        have hb : t - 2 ≤ tp ∧ tp ≤ t + 5 := by omega
        clear htp hz hc hbA
        obtain ⟨ky, ky1, ky2, ky3⟩ := u16_of tp
        have hx := HS.out.ext (by omega) h0 hb ky3
        have hadd := sq_add HS.out.sq.sq HS.out.sq.ok (by omega) ky2
        rw [hx] at hadd
        have hx1 : tp ≤ s.last + 65536 := by
          rw [← hx]
          exact ext16_le HS.out.sq.ok.low (by have := HS.out.sq.ok.top; omega) ky2
        have hB : 30000 ≤ tp ∧ tp ≤ 60000 := by have := HS.out.at1; have := HS.out.at2; have := HS.out.fst; omega
        have HA := Lib.hid (⟨h0, hb, hx1⟩ : _ ∧ _ ∧ _)
        have HC := Lib.hid hadd
        clear hx hadd ky2 ky3 h0 hb hx1
        go_wp2_with fail
        refine HC.out.mono ?_
        rintro e w3 ho
        obtain ⟨rfl, S3, h3, hS3, ho3⟩ := sqx_out HS.out.sq ho (by omega) HA.out.2.2
        obtain ⟨D, hm, hD⟩ := HS.out.mp
        have m3 := mapOf_onlyS hm ho3 HS.out.sep
        have sep3 : ¬ S3 Mb := fun h => by
          rcases hS3 Mb h with h5 | h5
          · exact HS.out.sep h5
          · have := hm.lt
            omega
        have hok := HS.out.okx (x := tp) (by omega)
        rw [← HLS.out] at hok
        have H3 := Lib.hid (⟨h3, sep3, m3, hD⟩ : _ ∧ _ ∧ _ ∧ _)
        clear ho h3 hS3 ho3 hm m3 sep3 HC
        by_cases hin : tp ∈ s.L
        · have hc1 := mapOf_look H3.out.2.2.1 H3.out.2.2.2 (x := tp) (by unfold I64; omega) (b := true) (by simpa using hin)
          have hc1 : (Instr.lookup 37 (.map (some Mb)) (.int .i64 tp) false).run Try.prog w3 = .ok (.int .i64 1) w3 := hc1
          have hk : okX s tp = false := by rw [hok]; simp [hin]
          rw [hk]
          have HK := Lib.hid hk
          clear hok hin hk hD
          go_wp2_with fail
          have HN := Lib.hid (HS.out.no (by omega) HA.out.1 HA.out.2.1 HK.out H3.out.1 H3.out.2.1 ⟨D, H3.out.2.2⟩)
          have hsl : addX s tp = s := by unfold addX; rw [HK.out]; simp
          have HSL := Lib.hid hsl
          clear hsl hc1
          go_roundw
          case rel => exact ⟨q + 1, tp, l, by omega, by go_num, rfl, rfl, hl1, hl2, by omega, by omega, Lib.hid ⟨s, S3, HN.out, HLS.out⟩⟩
          case measure => simp [intOf]; omega
        · have hc1 := mapOf_look H3.out.2.2.1 H3.out.2.2.2 (x := tp) (by unfold I64; omega) (b := false) (by simpa using hin)
          have hc1 : (Instr.lookup 37 (.map (some Mb)) (.int .i64 tp) false).run Try.prog w3 = .ok (.int .i64 0) w3 := hc1
          by_cases h64 : l - 64 < tp
          · have hk : okX s tp = true := by rw [hok]; simp [hin, h64]
            rw [hk]
            have HK := Lib.hid hk
            have HY : Hid (keyOf Try.prog 2 (.int .i64 tp) = some (.int .i64 tp)) := Lib.hid (keyOf_int_mk Try.underlying2 (wfI (by unfold I64; omega)))
            have hI1 : I64 1 := by unfold I64; omega
            have HI1 := Lib.hid (wfI hI1)
            clear hok hin hk hD hI1
            by_cases hmx : l < tp
            · have gm : decide (l < tp) = true := by simp; omega
              go_wp2_with (at_mapUpdate; refine wpList_mapUpdate_own _ rfl _ _ _ 37 rfl 2 3 lawI Try.underlying37 _ Mb q D rfl H3.out.2.2.1 (by unfold maxLen; omega) _ _ _ rfl rfl HY.out _ [] (plainElem_int Try.underlying3 HI1.out) ?_; intro w4 hown4 hgrow4)
              have HN := Lib.hid (HS.out.yes (by omega) HA.out.1 HA.out.2.1 HK.out H3.out.1 H3.out.2.1 hown4 H3.out.2.2.2 hgrow4)
              have hsl : tp = (addX s tp).last := by unfold addX; rw [HK.out]; simp only [if_true]; rw [← HLS.out]; omega
              have HSL := Lib.hid hsl
              clear hsl hc1 hown4 hgrow4
              go_roundw
              case rel => exact ⟨q + 1, tp, tp, by omega, by go_num, rfl, rfl, by omega, by omega, by omega, by omega, Lib.hid ⟨_, S3, HN.out, HSL.out⟩⟩
              case measure => simp [intOf]; omega
            · have gm : decide (l < tp) = false := by simp; omega
              go_wp2_with (at_mapUpdate; refine wpList_mapUpdate_own _ rfl _ _ _ 37 rfl 2 3 lawI Try.underlying37 _ Mb q D rfl H3.out.2.2.1 (by unfold maxLen; omega) _ _ _ rfl rfl HY.out _ [] (plainElem_int Try.underlying3 HI1.out) ?_; intro w4 hown4 hgrow4)
              have HN := Lib.hid (HS.out.yes (by omega) HA.out.1 HA.out.2.1 HK.out H3.out.1 H3.out.2.1 hown4 H3.out.2.2.2 hgrow4)
              have hsl : l = (addX s tp).last := by unfold addX; rw [HK.out]; simp only [if_true]; rw [← HLS.out]; omega
              have HSL := Lib.hid hsl
              clear hsl hc1 hown4 hgrow4
              go_roundw
              case rel => exact ⟨q + 1, tp, l, by omega, by go_num, rfl, rfl, by omega, by omega, by omega, by omega, Lib.hid ⟨_, S3, HN.out, HSL.out⟩⟩
              case measure => simp [intOf]; omega
          · have hk : okX s tp = false := by rw [hok]; simp [hin, h64]
            rw [hk]
            have HK := Lib.hid hk
            clear hok hin hk hD
            go_wp2_with fail
            have HN := Lib.hid (HS.out.no (by omega) HA.out.1 HA.out.2.1 HK.out H3.out.1 H3.out.2.1 ⟨D, H3.out.2.2⟩)
            clear hc1
            go_roundw
            case rel => exact ⟨q + 1, tp, l, by omega, by go_num, rfl, rfl, hl1, hl2, by omega, by omega, Lib.hid ⟨s, S3, HN.out, HLS.out⟩⟩
            case measure => simp [intOf]; omega
    · by_cases h1 : q < n
      · have g1 : decide ((q : Int) < (n : Int)) = true := by simp; omega
        have g1' : (q : Int) < (n : Int) := by omega
        have g2 : decide ((q : Int) < 100) = false := by simp; omega
        clear hlt
        by_cases hz : q = 0
        · obtain ⟨hsn, _⟩ := HS.out.zero hz
          have hl : l = -1 := by rw [HLS.out, hsn]; rfl
          have hC := sq_last HS.out.sq.sq
          rw [← HLS.out, hl] at hC
          have HC := Lib.hid hC
          subst hl
          clear hC hsn hz
          go_wp2_with fail
          refine HC.out.mono ?_
          rintro e w3 ⟨rfl, m3, hm3⟩
          have HB3 : Hid (Below w.heap.size w w3) := Lib.hid (by subst hm3; exact (HS.out.on (belowDrewN wr m3)).sq.below)
          clear hm3 HC
          go_wp2_with fail
          refine (known15_any _).mono ?_
          rintro e w4 ⟨rfl, b4⟩
          go_wp2_with fail
          go_ret
          exact ⟨rfl, HB3.out.trans (b4.mono HB3.out.size)⟩
        · have hm := HS.out.more (by omega)
          rw [← HLS.out] at hm
          have hfb := HS.out.fst
          obtain ⟨hm1, hm2, _, _⟩ := hm
          have gl : decide (l < 0) = false := by simp; omega
          have HF1 := Lib.hid hm1
          clear hz hm1
          go_wp2_with fail
          obtain ⟨wo, rfl⟩ : ∃ wo, wo = wr := ⟨_, rfl⟩
          go_loopw [13, 14] (fun a b wr => (∃ (j m : Nat) (x : Int), a = .int .i64 (m : Int) ∧ b = .int .i64 x ∧ m ≤ 300000 ∧ 40000 ≤ x ∧ x ≤ l + 1 ∧ Hid (Onc w G Mb f q t s S wr ∧ x = f + (j : Int) ∧ m = missN s.L f j ∧ m ≤ j))) (fun _ b _ => (l + 1 - intOf b).toNat)
          case atStart => exact ⟨0, 0, f, rfl, rfl, by omega, by omega, by omega, Lib.hid ⟨HS.out, by omega, rfl, Nat.le_refl _⟩⟩
          case round =>
            obtain ⟨j, m, x, rfl, rfl, hmb, hx1, hx2, HJ⟩ := hrel
            clear HS
            by_cases hxl : x ≤ l
            · have gx : decide (x ≤ l) = true := by simp; omega
              obtain ⟨D, hmp, hD⟩ := HJ.out.1.mp
              have hmj : m ≤ 200000 := by have := HJ.out.2; omega
              by_cases hin : x ∈ s.L
              · have hc1 := mapOf_look hmp hD (x := x) (by unfold I64; omega) (b := true) (by simpa using hin)
                have hc1 : (Instr.lookup 37 (.map (some Mb)) (.int .i64 x) false).run Try.prog wr = .ok (.int .i64 1) wr := hc1
                have hst : m = missN s.L f (j + 1) := by
                  have h2 := HJ.out.2
                  show m = missN s.L f j + (if f + (j : Int) ∈ s.L then 0 else 1)
                  rw [← h2.1, if_pos hin]; exact h2.2.1
                have HN : Hid (Onc w G Mb f q t s S wr ∧ x + 1 = f + ((j + 1 : Nat) : Int) ∧ m = missN s.L f (j + 1) ∧ m ≤ j + 1) := Lib.hid ⟨HJ.out.1, by have := HJ.out.2; omega, hst, by have := HJ.out.2; omega⟩
                clear HJ hmp hD hin hst
                go_wp2_with fail
                go_roundw
                case rel => exact ⟨j + 1, m, x + 1, rfl, rfl, by omega, by omega, by omega, HN⟩
                case measure => simp [intOf]; omega
              · have hc1 := mapOf_look hmp hD (x := x) (by unfold I64; omega) (b := false) (by simpa using hin)
                have hc1 : (Instr.lookup 37 (.map (some Mb)) (.int .i64 x) false).run Try.prog wr = .ok (.int .i64 0) wr := hc1
                have hst : m + 1 = missN s.L f (j + 1) := by
                  have h2 := HJ.out.2
                  show m + 1 = missN s.L f j + (if f + (j : Int) ∈ s.L then 0 else 1)
                  rw [← h2.1, if_neg hin, h2.2.1]
                have HN : Hid (Onc w G Mb f q t s S wr ∧ x + 1 = f + ((j + 1 : Nat) : Int) ∧ m + 1 = missN s.L f (j + 1) ∧ m + 1 ≤ j + 1) := Lib.hid ⟨HJ.out.1, by have := HJ.out.2; omega, hst, by have := HJ.out.2; omega⟩
                clear HJ hmp hD hin hst
                go_wp2_with fail
                go_roundw
                case rel => exact ⟨j + 1, m + 1, x + 1, by go_num, rfl, by omega, by omega, by omega, HN⟩
                case measure => simp [intOf]; omega
            · have gx : decide (x ≤ l) = false := by simp; omega
              have hlost : lostS s = (m : Int) := by
                have h2 := HJ.out.2
                have hj : s.first + (j : Int) = s.last + 1 := by rw [HF1.out, ← HLS.out]; omega
                rw [← missN_lost HJ.out.1.sq.ok (by rw [← HLS.out]; omega) hj, HF1.out, h2.2.1]
              have hC := sq_last HJ.out.1.sq.sq
              rw [← HLS.out] at hC
              have HC := Lib.hid hC
              have HLO := Lib.hid hlost
              clear hC hlost
              go_wp2_with fail
              refine HC.out.mono ?_
              rintro e w3 ⟨rfl, m3, hm3⟩
              have H3 : Hid (Onc w G Mb f q t s S w3) := Lib.hid (by subst hm3; exact HJ.out.1.on (belowDrewN wr m3))
              clear hm3 HC HJ
              go_wp2_with fail
              ((with_reducible refine (sq_lost_at H3.out.sq (x := (m : Int)) (by omega) HLO.out).mono ?_); rintro e w4 ⟨rfl, m4, hm4⟩)
              have H4 : Hid (Onc w G Mb f q t s S w4) := Lib.hid (by subst hm4; exact H3.out.on (belowDrewN w3 m4))
              clear hm4 H3
              go_wp2_with fail
              refine (known15_any _).mono ?_
              rintro e w5 ⟨rfl, b5⟩
              have H5 := Lib.hid (H4.out.on b5).sq.below
              clear b5 H4
              go_wp2_with fail
              go_ret
              exact ⟨rfl, H5.out⟩
      · have g1 : decide ((q : Int) < (n : Int)) = false := by simp; omega
        clear hlt
        by_cases hz : q = 0
        · obtain ⟨hsn, _⟩ := HS.out.zero hz
          have hl : l = -1 := by rw [HLS.out, hsn]; rfl
          have hC := sq_last HS.out.sq.sq
          rw [← HLS.out, hl] at hC
          have HC := Lib.hid hC
          subst hl
          clear hC hsn hz
          go_wp2_with fail
          refine HC.out.mono ?_
          rintro e w3 ⟨rfl, m3, hm3⟩
          have HB3 : Hid (Below w.heap.size w w3) := Lib.hid (by subst hm3; exact (HS.out.on (belowDrewN wr m3)).sq.below)
          clear hm3 HC
          go_wp2_with fail
          refine (known15_any _).mono ?_
          rintro e w4 ⟨rfl, b4⟩
          go_wp2_with fail
          go_ret
          exact ⟨rfl, HB3.out.trans (b4.mono HB3.out.size)⟩
        · have hm := HS.out.more (by omega)
          rw [← HLS.out] at hm
          have hfb := HS.out.fst
          obtain ⟨hm1, hm2, _, _⟩ := hm
          have gl : decide (l < 0) = false := by simp; omega
          have HF1 := Lib.hid hm1
          clear hz hm1
          go_wp2_with fail
          obtain ⟨wo, rfl⟩ : ∃ wo, wo = wr := ⟨_, rfl⟩
          go_loopw [13, 14] (fun a b wr => (∃ (j m : Nat) (x : Int), a = .int .i64 (m : Int) ∧ b = .int .i64 x ∧ m ≤ 300000 ∧ 40000 ≤ x ∧ x ≤ l + 1 ∧ Hid (Onc w G Mb f q t s S wr ∧ x = f + (j : Int) ∧ m = missN s.L f j ∧ m ≤ j))) (fun _ b _ => (l + 1 - intOf b).toNat)
          case atStart => exact ⟨0, 0, f, rfl, rfl, by omega, by omega, by omega, Lib.hid ⟨HS.out, by omega, rfl, Nat.le_refl _⟩⟩
          case round =>
            obtain ⟨j, m, x, rfl, rfl, hmb, hx1, hx2, HJ⟩ := hrel
            clear HS
            by_cases hxl : x ≤ l
            · have gx : decide (x ≤ l) = true := by simp; omega
              obtain ⟨D, hmp, hD⟩ := HJ.out.1.mp
              have hmj : m ≤ 200000 := by have := HJ.out.2; omega
              by_cases hin : x ∈ s.L
              · have hc1 := mapOf_look hmp hD (x := x) (by unfold I64; omega) (b := true) (by simpa using hin)
                have hc1 : (Instr.lookup 37 (.map (some Mb)) (.int .i64 x) false).run Try.prog wr = .ok (.int .i64 1) wr := hc1
                have hst : m = missN s.L f (j + 1) := by
                  have h2 := HJ.out.2
                  show m = missN s.L f j + (if f + (j : Int) ∈ s.L then 0 else 1)
                  rw [← h2.1, if_pos hin]; exact h2.2.1
                have HN : Hid (Onc w G Mb f q t s S wr ∧ x + 1 = f + ((j + 1 : Nat) : Int) ∧ m = missN s.L f (j + 1) ∧ m ≤ j + 1) := Lib.hid ⟨HJ.out.1, by have := HJ.out.2; omega, hst, by have := HJ.out.2; omega⟩
                clear HJ hmp hD hin hst
                go_wp2_with fail
                go_roundw
                case rel => exact ⟨j + 1, m, x + 1, rfl, rfl, by omega, by omega, by omega, HN⟩
                case measure => simp [intOf]; omega
              · have hc1 := mapOf_look hmp hD (x := x) (by unfold I64; omega) (b := false) (by simpa using hin)
                have hc1 : (Instr.lookup 37 (.map (some Mb)) (.int .i64 x) false).run Try.prog wr = .ok (.int .i64 0) wr := hc1
                have hst : m + 1 = missN s.L f (j + 1) := by
                  have h2 := HJ.out.2
                  show m + 1 = missN s.L f j + (if f + (j : Int) ∈ s.L then 0 else 1)
                  rw [← h2.1, if_neg hin, h2.2.1]
                have HN : Hid (Onc w G Mb f q t s S wr ∧ x + 1 = f + ((j + 1 : Nat) : Int) ∧ m + 1 = missN s.L f (j + 1) ∧ m + 1 ≤ j + 1) := Lib.hid ⟨HJ.out.1, by have := HJ.out.2; omega, hst, by have := HJ.out.2; omega⟩
                clear HJ hmp hD hin hst
                go_wp2_with fail
                go_roundw
                case rel => exact ⟨j + 1, m + 1, x + 1, by go_num, rfl, by omega, by omega, by omega, HN⟩
                case measure => simp [intOf]; omega
            · have gx : decide (x ≤ l) = false := by simp; omega
              have hlost : lostS s = (m : Int) := by
                have h2 := HJ.out.2
                have hj : s.first + (j : Int) = s.last + 1 := by rw [HF1.out, ← HLS.out]; omega
                rw [← missN_lost HJ.out.1.sq.ok (by rw [← HLS.out]; omega) hj, HF1.out, h2.2.1]
              have hC := sq_last HJ.out.1.sq.sq
              rw [← HLS.out] at hC
              have HC := Lib.hid hC
              have HLO := Lib.hid hlost
              clear hC hlost
              go_wp2_with fail
              refine HC.out.mono ?_
              rintro e w3 ⟨rfl, m3, hm3⟩
              have H3 : Hid (Onc w G Mb f q t s S w3) := Lib.hid (by subst hm3; exact HJ.out.1.on (belowDrewN wr m3))
              clear hm3 HC HJ
              go_wp2_with fail
              ((with_reducible refine (sq_lost_at H3.out.sq (x := (m : Int)) (by omega) HLO.out).mono ?_); rintro e w4 ⟨rfl, m4, hm4⟩)
              have H4 : Hid (Onc w G Mb f q t s S w4) := Lib.hid (by subst hm4; exact H3.out.on (belowDrewN w3 m4))
              clear hm4 H3
              go_wp2_with fail
              refine (known15_any _).mono ?_
              rintro e w5 ⟨rfl, b5⟩
              have H5 := Lib.hid (H4.out.on b5).sq.below
              clear b5 H4
              go_wp2_with fail
              go_ret
              exact ⟨rfl, H5.out⟩
end Go.Proofs.Ytmkbbndfdgnakaa
