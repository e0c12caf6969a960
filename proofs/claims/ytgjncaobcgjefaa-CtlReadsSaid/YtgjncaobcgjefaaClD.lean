/- Contract: ctl.Read, of any bytes. -/
import Derived.Test.YtgjncaobcgjefaaNg
import Derived.Test.YtgjncaobcgjefaaClY
namespace Go.Proofs.Ytgjncaobcgjefaa.RP
open Go.RowKit
set_option linter.unusedVariables false
set_option linter.unusedSimpArgs false
set_option maxRecDepth 20000

/-- What Read answers. -/
def ReadOut (d : Ctl × Int) (w : World) (e : Ending) (w' : World) : Prop := ∃ A cp, e = .returned (.tuple #[d.1.val A cp, .int .i64 d.2]) ∧ IsC w' w'.heap.size d.1 A cp ∧ d.1.layers.length ≤ 100000 ∧ Below w.heap.size w w'
theorem i64_0 : I64 0 := by unfold I64; omega
theorem zC_is (w : World) (B : Nat) : IsC w B zC none 0 := ⟨RL.nil _ _ _ _, i64_0, i64_0, i64_0, i64_0, i64_0, i64_0, i64_0⟩
theorem zero_far {w : World} {B n c g : Nat} {A : Option Addr} {l : List Lay} {t : TypeId} (h : RL w B A n c l) (hB : Blk w g t zeroCt) (hn : 0 < n) : ∀ ad, A = some ad → ad.block ≠ g := by
  intro ad ha e
  have hl := h.1
  obtain ⟨b, off, h1, h2, h3, _⟩ := h.at (q := 0) (by omega)
  rw [h1] at ha
  injection ha with ha
  subst ha
  simp only at e
  subst e
  rw [hB.cell] at h3
  have hm := Array.mem_of_getElem? h3
  simp [zeroCt] at hm
theorem RL.set8z {w : World} {n c R : Nat} {A : Option Addr} {l : List Lay} {t : TypeId} (h : RL w w.heap.size A n c l) (hB : Blk w R t zeroCt) (v0 v1 v2 v3 v4 v5 v6 v7 : Value) : RL (set8 w R v0 v1 v2 v3 v4 v5 v6 v7) (set8 w R v0 v1 v2 v3 v4 v5 v6 v7).heap.size A n c l := by
  rcases Nat.eq_zero_or_pos n with h0 | h0
  · have hl : l = [] := List.length_eq_zero_iff.1 (by rw [h.1]; exact h0)
    subst h0 hl
    exact RL.nil _ _ _ _
  · exact RL.set8 h (zero_far h hB h0) v0 v1 v2 v3 v4 v5 v6 v7
def gatP (base : Nat) (wr : World) (A : Option Addr) (n cp : Nat) (x : List UInt8) (c : Ctl) : ClF (lyF base wr A n cp x) := .pred (fun v W => ∃ A' cp', v = c.val A' cp' ∧ IsC W W.heap.size c A' cp' ∧ c.layers.length ≤ 100000) (fun v a b _ hf _ h => by
  obtain ⟨A', cp', e, hi, hln⟩ := h
  exact ⟨A', cp', e, hi.on hf, hln⟩)
theorem gatP_of {base : Nat} {wr : World} {A : Option Addr} {n cp : Nat} {x : List UInt8} {d : Ctl} {c : ClF (lyF base wr A n cp x)} {v : Value} {W : World} (h : c.holds v W) (e : c = gatP base wr A n cp x d) : ∃ A' cp', v = d.val A' cp' ∧ IsC W W.heap.size d A' cp' ∧ d.layers.length ≤ 100000 := by subst e; exact h
def cellP (base : Nat) (wr : World) (A : Option Addr) (n cp : Nat) (x : List UInt8) : ClF (lyF base wr A n cp x) := .pred (fun v W => ∃ g, v = .pointer (some ⟨g, 0, none⟩) ∧ wr.heap.size ≤ g ∧ Blk W g 25 zeroCt) (fun v a b _ hf _ h => by
  obtain ⟨g, e, h1, hb⟩ := h
  exact ⟨g, e, h1, hb.below hf hb.lt⟩)
theorem cellP_of {base : Nat} {wr : World} {A : Option Addr} {n cp : Nat} {x : List UInt8} {c : ClF (lyF base wr A n cp x)} {v : Value} {W : World} (h : c.holds v W) (e : c = cellP base wr A n cp x) : ∃ g, v = .pointer (some ⟨g, 0, none⟩) ∧ wr.heap.size ≤ g ∧ Blk W g 25 zeroCt := by subst e; exact h
set_option maxHeartbeats 8000000 in
theorem read_any (A : Option Addr) (n cp : Nat) (b : List UInt8) (w : World) (h : R8 w w.heap.size A n cp b) (hn : n ≤ 140737488355328) : Calls Try.prog 9 #[.slice A n cp] w (ReadOut (rdM b) w) := by
  have hbn := h.1
  have hC16 : getN b 1 2 < 65536 := getN_lt b 1 2
  have hgB : getB n 1 2 = decide (3 ≤ n) := by
    unfold getB szB thB
    by_cases h3 : 3 ≤ n
    · simp [h3]; omega
    · simp [h3]; omega
  have hgN : 3 ≤ n → getN b 1 2 = num ((b.drop 1).take 2) := fun h3 => getN_of (x := b) (i := 1) (k := 2) (by omega) (by omega) (by omega)
  have HR1 : Hid (n < 3 ∨ (3 ≤ n ∧ n - 3 < getN b 1 2) → rdM b = (zC, 13)) := Lib.hid fun h => by
    unfold rdM
    rcases h with h | h
    · rw [if_pos (by omega)]
    · rw [if_neg (by omega), if_pos (by rw [← hgN h.1]; omega)]
  have HR2 : Hid (3 ≤ n → getN b 1 2 < n - 3 → rdM b = (zC, 12)) := Lib.hid fun h3 h => by
    unfold rdM
    rw [if_neg (by omega), if_neg (by rw [← hgN h3]; omega), if_pos (by rw [← hgN h3]; omega)]
  have HR3 : Hid (3 ≤ n → getN b 1 2 = n - 3 → rdM b = if (gat (b.getD 0 0).toNat (b.drop 3)).err = 0 ∧ (gat (b.getD 0 0).toNat (b.drop 3)).bytes = b then (gat (b.getD 0 0).toNat (b.drop 3), 0) else (zC, 12)) := Lib.hid fun h3 h => by
    unfold rdM
    rw [if_neg (by omega), if_neg (by rw [← hgN h3]; omega), if_neg (by rw [← hgN h3]; omega)]
  generalize rdM b = RD at HR1 HR2 HR3 ⊢
  have b0 := below_alloc w (.cells zeroCt 25)
  have hZ := Blk.new w 25 zeroCt
  have h0 := h.on b0
  have hg := get_any A n cp b _ h0 hn 1 2 (by unfold I64; omega)
  rw [hgB] at hg
  clear hgB hgN
  generalize getN b 1 2 = C at hC16 hg HR1 HR2 HR3
  obtain ⟨g, hgg⟩ : ∃ g, g = w.heap.size := ⟨_, rfl⟩
  have HGW := Lib.hid hgg
  have hzd : zeroCt = #[.int .i64 0, .int .i64 0, .slice none 0 0, .int .i64 0, .int .i64 0, .int .i64 0, .int .i64 0, .int .i64 0] := rfl
  rw [hzd] at b0 hZ h0 hg
  go_enter Try.func9, Try.ntmps9
  go_wp2_with fail
  refine hg.mono ?_
  rintro e w' ⟨rfl, rfl⟩
  rw [← hgg] at hZ ⊢
  clear hg hgg hzd h
  generalize w.alloc (.cells #[.int .i64 0, .int .i64 0, .slice none 0 0, .int .i64 0, .int .i64 0, .int .i64 0, .int .i64 0, .int .i64 0] 25) = W4 at b0 hZ h0 ⊢
  have yC : IntKind.i64.wrap (C : Int) = (C : Int) := by rw [IntKind.wrap_i64]; omega
  have y3 : IntKind.i64.wrap ((n : Int) - 3) = (n : Int) - 3 := by rw [IntKind.wrap_i64]; omega
  by_cases h3 : 3 ≤ n
  case neg =>
    have d3 : decide (3 ≤ n) = false := by simpa using h3
    rw [d3]
    have hRD : RD = (zC, 13) := HR1.out (.inl (by omega))
    subst hRD
    clear d3 h3 h0 yC y3
    have zc := blk8 hZ
    have zf := blk8f hZ
    obtain ⟨z0, z1, z2, z3, z4, z5, z6, z7⟩ := zc
    obtain ⟨zf0, zf1, zf2, zf3, zf4, zf5, zf6, zf7⟩ := zf
    have hBs := set8_blk (v0 := .int .i64 0) (v1 := .int .i64 0) (v2 := .slice none 0 0) (v3 := .int .i64 0) (v4 := .int .i64 0) (v5 := .int .i64 0) (v6 := .int .i64 0) (v7 := .int .i64 0) hZ
    have bs := b0.trans (set8_below (B := w.heap.size) (W := W4) (R := g) (v0 := .int .i64 0) (v1 := .int .i64 0) (v2 := .slice none 0 0) (v3 := .int .i64 0) (v4 := .int .i64 0) (v5 := .int .i64 0) (v6 := .int .i64 0) (v7 := .int .i64 0) (by have := HGW.out; omega))
    go_wp2_with fail
    have hq := blk8 hBs
    change bodyPost _ _ _ _ _ (set8 W4 g (.int .i64 0) (.int .i64 0) (.slice none 0 0) (.int .i64 0) (.int .i64 0) (.int .i64 0) (.int .i64 0) (.int .i64 0))
    generalize set8 W4 g (.int .i64 0) (.int .i64 0) (.slice none 0 0) (.int .i64 0) (.int .i64 0) (.int .i64 0) (.int .i64 0) (.int .i64 0) = W9 at bs hq ⊢
    obtain ⟨q0, q1, q2, q3, q4, q5, q6, q7⟩ := hq
    refine bodyPost_ret (v := .tuple #[.agg #[.int .i64 0, .int .i64 0, .slice none 0 0, .int .i64 0, .int .i64 0, .int .i64 0, .int .i64 0, .int .i64 0], .int .i64 13]) (by simp [results, Try.results9, go_sem, q0, q1, q2, q3, q4, q5, q6, q7]; try rfl) rfl ?_
    exact ⟨none, 0, rfl, zC_is _ _, by show (0 : Nat) ≤ 100000; omega, bs⟩
  have d3 : decide (3 ≤ n) = true := by simpa using h3
  rw [d3]
  by_cases hlt : n - 3 < C
  · have t1 : decide ((n : Int) - 3 < (C : Int)) = true := by simp; omega
    have hRD : RD = (zC, 13) := HR1.out (.inr ⟨h3, hlt⟩)
    subst hRD
    clear d3 h3 h0 hlt
    have zc := blk8 hZ
    have zf := blk8f hZ
    obtain ⟨z0, z1, z2, z3, z4, z5, z6, z7⟩ := zc
    obtain ⟨zf0, zf1, zf2, zf3, zf4, zf5, zf6, zf7⟩ := zf
    have hBs := set8_blk (v0 := .int .i64 0) (v1 := .int .i64 0) (v2 := .slice none 0 0) (v3 := .int .i64 0) (v4 := .int .i64 0) (v5 := .int .i64 0) (v6 := .int .i64 0) (v7 := .int .i64 0) hZ
    have bs := b0.trans (set8_below (B := w.heap.size) (W := W4) (R := g) (v0 := .int .i64 0) (v1 := .int .i64 0) (v2 := .slice none 0 0) (v3 := .int .i64 0) (v4 := .int .i64 0) (v5 := .int .i64 0) (v6 := .int .i64 0) (v7 := .int .i64 0) (by have := HGW.out; omega))
    go_wp2_with fail
    have hq := blk8 hBs
    change bodyPost _ _ _ _ _ (set8 W4 g (.int .i64 0) (.int .i64 0) (.slice none 0 0) (.int .i64 0) (.int .i64 0) (.int .i64 0) (.int .i64 0) (.int .i64 0))
    generalize set8 W4 g (.int .i64 0) (.int .i64 0) (.slice none 0 0) (.int .i64 0) (.int .i64 0) (.int .i64 0) (.int .i64 0) (.int .i64 0) = W9 at bs hq ⊢
    obtain ⟨q0, q1, q2, q3, q4, q5, q6, q7⟩ := hq
    refine bodyPost_ret (v := .tuple #[.agg #[.int .i64 0, .int .i64 0, .slice none 0 0, .int .i64 0, .int .i64 0, .int .i64 0, .int .i64 0, .int .i64 0], .int .i64 13]) (by simp [results, Try.results9, go_sem, q0, q1, q2, q3, q4, q5, q6, q7]; try rfl) rfl ?_
    exact ⟨none, 0, rfl, zC_is _ _, by show (0 : Nat) ≤ 100000; omega, bs⟩
  have t1 : decide ((n : Int) - 3 < (C : Int)) = false := by simp; omega
  by_cases hgt : C < n - 3
  · have t2 : decide ((C : Int) < (n : Int) - 3) = true := by simp; omega
    have hRD : RD = (zC, 12) := HR2.out h3 hgt
    subst hRD
    clear d3 h3 h0 hlt hgt
    have zc := blk8 hZ
    have zf := blk8f hZ
    obtain ⟨z0, z1, z2, z3, z4, z5, z6, z7⟩ := zc
    obtain ⟨zf0, zf1, zf2, zf3, zf4, zf5, zf6, zf7⟩ := zf
    have hBs := set8_blk (v0 := .int .i64 0) (v1 := .int .i64 0) (v2 := .slice none 0 0) (v3 := .int .i64 0) (v4 := .int .i64 0) (v5 := .int .i64 0) (v6 := .int .i64 0) (v7 := .int .i64 0) hZ
    have bs := b0.trans (set8_below (B := w.heap.size) (W := W4) (R := g) (v0 := .int .i64 0) (v1 := .int .i64 0) (v2 := .slice none 0 0) (v3 := .int .i64 0) (v4 := .int .i64 0) (v5 := .int .i64 0) (v6 := .int .i64 0) (v7 := .int .i64 0) (by have := HGW.out; omega))
    go_wp2_with fail
    have hq := blk8 hBs
    change bodyPost _ _ _ _ _ (set8 W4 g (.int .i64 0) (.int .i64 0) (.slice none 0 0) (.int .i64 0) (.int .i64 0) (.int .i64 0) (.int .i64 0) (.int .i64 0))
    generalize set8 W4 g (.int .i64 0) (.int .i64 0) (.slice none 0 0) (.int .i64 0) (.int .i64 0) (.int .i64 0) (.int .i64 0) (.int .i64 0) = W9 at bs hq ⊢
    obtain ⟨q0, q1, q2, q3, q4, q5, q6, q7⟩ := hq
    refine bodyPost_ret (v := .tuple #[.agg #[.int .i64 0, .int .i64 0, .slice none 0 0, .int .i64 0, .int .i64 0, .int .i64 0, .int .i64 0, .int .i64 0], .int .i64 12]) (by simp [results, Try.results9, go_sem, q0, q1, q2, q3, q4, q5, q6, q7]; try rfl) rfl ?_
    exact ⟨none, 0, rfl, zC_is _ _, by show (0 : Nat) ≤ 100000; omega, bs⟩
  have t2 : decide ((C : Int) < (n : Int) - 3) = false := by simp; omega
  have HRD := Lib.hid (HR3.out h3 (by omega))
  have hn65 : n - 3 ≤ 65535 := by omega
  obtain ⟨K0, hK0⟩ : ∃ K, K = (b.getD 0 0).toNat := ⟨_, rfl⟩
  have hK8 : K0 < 256 := by rw [hK0]; exact (b.getD 0 0).toNat_lt
  obtain ⟨bb, off, rfl, hbb, hcell⟩ := h0.2.2 (by omega)
  have hc0 : Hid (K0 = (b.getD 0 0).toNat) := Lib.hid hK0
  rw [← hK0] at HRD
  clear hK0 hcell HR1 HR2 HR3
  have HGA := Lib.hid fun (W : World) (hR : R8 W W.heap.size (some ⟨bb, off, none⟩) n cp b) => gather_any K0 hK8 _ _ _ _ W (hR.from8 3 h3) hn65
  generalize gat K0 (b.drop 3) = G at HRD HGA
  have hcp := h0.2.1
  have hsl : ∀ W : World, (Instr.slice 30 (.slice (some ⟨bb, off, none⟩) n cp) (some (.int .i64 3)) none none).run Try.prog W = .ok (.slice (cutA (some ⟨bb, off, none⟩) cp 3) (n - 3) (cp - 3)) W := fun W => run_from8 (some ⟨bb, off, none⟩) n cp 3 h3 hcp W
  have hkk : K0 < 256 := hK8
  have yK : IntKind.i64.wrap (K0 : Int) = (K0 : Int) := by rw [IntKind.wrap_i64]; omega
  clear hn65 hlt hgt
  have tn : (0 : Int) < (n : Int) := by omega
  have tn' : decide ((0 : Int) < (n : Int)) = true := by simp; omega
  go_upto_region 6 with (fail)
  have HZ := Lib.hid hZ
  have HGS := Lib.hid hZ.lt
  have hR8 := Lib.hid h0
  refine wp_region_s (F := lyF W4.heap.size W4 (some ⟨bb, off, none⟩) n cp b) (fun _ => false) (fun _ _ => True) 8
    [.val (.slice (some ⟨bb, off, none⟩) n cp), .val (.pointer (some ⟨bb, off, none⟩)), .val (.int .u8 (K0 : Int)), .val (.int .i64 (K0 : Int)), .val (.slice (some ⟨bb, off, none⟩) n cp), .val (.slice (cutA (some ⟨bb, off, none⟩) cp 3) (n - 3) (cp - 3)), gatP W4.heap.size W4 (some ⟨bb, off, none⟩) n cp b G, cellP W4.heap.size W4 (some ⟨bb, off, none⟩) n cp b]
    (by kernel_rfl) (by kernel_rfl) (by kernel_rfl) (by decide) (by kernel_rfl) ⟨below_drewN _ W4 1, Nat.le_refl _, hR8.out.drewN 1⟩ (fun i hi => trivial) (fun _ _ _ _ _ _ _ _ => trivial) (AllOblS.upto ⟨?_, ?_, ?_, ?_, ?_, ?_, ?_, ?_, trivial⟩) ?_ ?_
  · intro _
    exact OblS.move rfl _ (Or.inl rfl) (by kernel_rfl) rfl
  · intro _
    refine OblS.pure rfl (.pointer (some ⟨bb, off, none⟩)) (by kernel_rfl) rfl fun ev W hI hx => ?_
    have e34 : ev (.tmp 34) = .slice (some ⟨bb, off, none⟩) n cp := holds_valF (hx (.tmp 34)) (by kernel_rfl)
    have k0 : ev (.const (.int .i64 0)) = .int .i64 0 := holds_valF (hx (.const (.int .i64 0))) (by kernel_rfl)
    have hn0 : ¬ n = 0 := by omega
    simp [execOp, go_sem, e34, k0, tn, hn0]
  · intro _
    refine OblS.pure rfl (.int .u8 (K0 : Int)) (by kernel_rfl) rfl fun ev W hI hx => ?_
    have e35 : ev (.tmp 35) = .pointer (some ⟨bb, off, none⟩) := holds_valF (hx (.tmp 35)) (by kernel_rfl)
    have d4 : W.cell? ⟨bb, off, none⟩ = some (.int .u8 (K0 : Int)) := by
      obtain ⟨b', off', e', _, hc⟩ := hI.2.2.2.2 (by omega)
      injection e' with e'
      injection e' with e1 e2
      subst e1 e2
      have := hc 0 (by omega)
      rwa [Nat.add_zero, ← hc0.out] at this
    simp [execOp, go_sem, e35, d4]
  · intro _
    refine OblS.pure rfl (.int .i64 (K0 : Int)) (by kernel_rfl) rfl fun ev W hI hx => ?_
    have e36 : ev (.tmp 36) = .int .u8 (K0 : Int) := holds_valF (hx (.tmp 36)) (by kernel_rfl)
    simp [execOp, go_sem, e36, yK]
  · intro _
    exact OblS.move rfl _ (Or.inl rfl) (by kernel_rfl) rfl
  · intro _
    refine OblS.pure rfl (.slice (cutA (some ⟨bb, off, none⟩) cp 3) (n - 3) (cp - 3)) (by kernel_rfl) rfl fun ev W hI hx => ?_
    have e38 : ev (.tmp 38) = .slice (some ⟨bb, off, none⟩) n cp := holds_valF (hx (.tmp 38)) (by kernel_rfl)
    have k0 : ev (.const (.int .i64 3)) = .int .i64 3 := holds_valF (hx (.const (.int .i64 3))) (by kernel_rfl)
    simp [execOp, go_sem, e38, k0, hsl]
  · intro _
    refine OblS.call rfl 23 #[.tmp 37, .tmp 39] _ rfl Try.f23 Try.func23 (by kernel_rfl) (by kernel_rfl) rfl fun ev W hI hx => ?_
    have e0 : ev (.tmp 37) = .int .i64 (K0 : Int) := holds_valF (hx (.tmp 37)) (by kernel_rfl)
    have e1 : ev (.tmp 39) = .slice (cutA (some ⟨bb, off, none⟩) cp 3) (n - 3) (cp - 3) := holds_valF (hx (.tmp 39)) (by kernel_rfl)
    simp only [List.map_toArray, List.map_cons, List.map_nil, e0, e1]
    refine (HGA.out W hI.2.2).mono ?_
    rintro e W' ⟨A', cp', rfl, hic, hlen, hb⟩
    exact ⟨_, rfl, lyF_step hI (Nat.le_refl _) hb, hb, ⟨A', cp', rfl, hic, hlen⟩⟩
  · intro _
    refine OblS.step rfl fun ev W hI hx => ?_
    refine ⟨.pointer (some ⟨W.heap.size, 0, none⟩), W.alloc (.cells zeroCt 25), ?_, ?_, ?_, ?_⟩
    · simp [execOp, go_sem, zeroCt]
    · exact lyF_step hI (Nat.le_refl _) (below_alloc W _)
    · exact below_alloc W _
    · exact ⟨W.heap.size, rfl, hI.2.1, Blk.new _ _ _⟩
  · intro i oo him hsp hoo
    cases hsp
  intro aa W hI hsz hdf hold hv
  obtain ⟨A', cp', e40, hic, hlen⟩ := gatP_of (hv 6 (by decide)) (by kernel_rfl)
  obtain ⟨g6, e6, hg6, hB6⟩ := cellP_of (hv 7 (by decide)) (by kernel_rfl)
  have v40 : aa.tmps.getD 40 undef = G.val A' cp' := e40
  have v6 : aa.tmps.getD 6 undef = .pointer (some ⟨g6, 0, none⟩) := e6
  have ha := act_puts [34, 35, 36, 37, 38, 39, 40, 6] (by kernel_rfl) hsz hdf hold
  simp only [putAll, v40, v6] at ha
  generalize aa.tmps.getD 34 undef = x34 at ha
  generalize aa.tmps.getD 35 undef = x35 at ha
  generalize aa.tmps.getD 36 undef = x36 at ha
  generalize aa.tmps.getD 37 undef = x37 at ha
  generalize aa.tmps.getD 38 undef = x38 at ha
  generalize aa.tmps.getD 39 undef = x39 at ha
  clear v40 v6 e40 e6 hv hold hsz hdf
  subst ha
  simp only [List.toList_toArray, List.drop_succ_cons, List.drop_zero, Act.put, List.setIfInBounds_toArray, List.set_cons_succ, List.set_cons_zero]
  have hbW := b0.trans (hI.1.mono b0.size)
  have hZW := HZ.out.below hI.1 HGS.out
  have hRW := hI.2.2
  have hg46 : g < g6 := Nat.lt_of_lt_of_le HGS.out hg6
  have hI1 := hI.1
  clear hI hZ HZ h0 hsl HGA b0 t1 t2 tn tn' y3 yC yK hcp hbb
  have hl6 := RL.set8z hic.layers hB6 (.int .i64 G.kind) (.int .i64 G.cap) (.slice A' G.layers.length cp') (.int .i64 G.peer) (.int .i64 G.height) (.int .i64 G.cls) (.int .i64 G.layer) (.int .i64 G.code)
  have HCI : Hid (CIn G) := Lib.hid ⟨hic.layers.2.1, hic.kind, hic.cap, hic.peer, hic.height, hic.cls, hic.layer, hic.code⟩
  have HBC := Lib.hid fun (W : World) (hl : RL W W.heap.size A' G.layers.length cp' G.layers) => bytes_ctl G A' cp' W hl (by omega)
  obtain ⟨er, her⟩ : ∃ er, er = G.err := ⟨_, rfl⟩
  obtain ⟨BY, hBY⟩ : ∃ x, x = G.bytes := ⟨_, rfl⟩
  rw [← her, ← hBY] at HRD HBC
  have HBL : Hid (er = 0 → BY.length ≤ 51) := Lib.hid fun h => by
    rw [her] at h
    have h1 := body_len ((Ctl.ok_iff G).1 h)
    rw [hBY, bytes_len]
    omega
  clear her hBY hic
  have HV : Hid (∀ (A : Option Addr) (cp : Nat), G.val A cp = G.val A cp) := Lib.hid fun _ _ => rfl
  obtain ⟨gk, gc, gl, ge, gh, gs, gy, gd⟩ := G
  simp only [Ctl.val] at HBC hl6 hlen ⊢
  generalize hgm : gl.length = gm at HBC hl6 hlen ⊢
  have HGM := Lib.hid hgm
  obtain ⟨z0, z1, z2, z3, z4, z5, z6, z7⟩ := blk8 hB6
  obtain ⟨zf0, zf1, zf2, zf3, zf4, zf5, zf6, zf7⟩ := blk8f hB6
  have hS6 := set8_blk (v0 := .int .i64 gk) (v1 := .int .i64 gc) (v2 := .slice A' gm cp') (v3 := .int .i64 ge) (v4 := .int .i64 gh) (v5 := .int .i64 gs) (v6 := .int .i64 gy) (v7 := .int .i64 gd) hB6
  have b6 := hbW.trans (set8_below (B := w.heap.size) (W := W) (R := g6) (v0 := .int .i64 gk) (v1 := .int .i64 gc) (v2 := .slice A' gm cp') (v3 := .int .i64 ge) (v4 := .int .i64 gh) (v5 := .int .i64 gs) (v6 := .int .i64 gy) (v7 := .int .i64 gd) (by have := HGW.out; omega))
  have bg := set8_below (B := g6) (W := W) (R := g6) (v0 := .int .i64 gk) (v1 := .int .i64 gc) (v2 := .slice A' gm cp') (v3 := .int .i64 ge) (v4 := .int .i64 gh) (v5 := .int .i64 gs) (v6 := .int .i64 gy) (v7 := .int .i64 gd) (Nat.le_refl _)
  have hZ6 := hZW.below bg hg46
  have hR6 : R8 (set8 W g6 (.int .i64 gk) (.int .i64 gc) (.slice A' gm cp') (.int .i64 ge) (.int .i64 gh) (.int .i64 gs) (.int .i64 gy) (.int .i64 gd)) (set8 W g6 (.int .i64 gk) (.int .i64 gc) (.slice A' gm cp') (.int .i64 ge) (.int .i64 gh) (.int .i64 gs) (.int .i64 gy) (.int .i64 gd)).heap.size (some ⟨bb, off, none⟩) n cp b := hR8.out.on (hI1.trans (set8_below (B := W4.heap.size) (W := W) (R := g6) (v0 := .int .i64 gk) (v1 := .int .i64 gc) (v2 := .slice A' gm cp') (v3 := .int .i64 ge) (v4 := .int .i64 gh) (v5 := .int .i64 gs) (v6 := .int .i64 gy) (v7 := .int .i64 gd) hg6))
  clear hgm hZW hRW hB6 hbW bg hI1 hR8
  go_wp2_with fail
  change Calls _ _ _ (set8 W g6 (.int .i64 gk) (.int .i64 gc) (.slice A' gm cp') (.int .i64 ge) (.int .i64 gh) (.int .i64 gs) (.int .i64 gy) (.int .i64 gd)) _
  generalize set8 W g6 (.int .i64 gk) (.int .i64 gc) (.slice A' gm cp') (.int .i64 ge) (.int .i64 gh) (.int .i64 gs) (.int .i64 gy) (.int .i64 gd) = W6 at hS6 b6 hZ6 hR6 hl6 ⊢
  have hBC := HBC.out W6 hl6
  by_cases he : er = 0
  case neg =>
    have hRD : RD = (zC, 12) := by rw [HRD.out, if_neg (fun h => he h.1)]
    subst hRD
    have ter : (er != 0) = true := by simpa using he
    rw [if_neg he] at hBC
    refine hBC.mono ?_
    rintro e W7 ⟨v7, rfl, o7, b7⟩
    obtain ⟨A7, c7, rfl, r7, f7⟩ := o7.r8n
    simp only [List.length_nil]
    have b8 := b6.trans (b7.mono b6.size)
    have hZ8 := hZ6.below b7 hZ6.lt
    clear f7 r7 o7 hBC HBC he HRD hl6 hS6 hZ6 hR6 b7 b6 z0 z1 z2 z3 z4 z5 z6 z7 zf0 zf1 zf2 zf3 zf4 zf5 zf6 zf7 hlen hbn HV
    have zc := blk8 hZ8
    have zf := blk8f hZ8
    obtain ⟨z0, z1, z2, z3, z4, z5, z6, z7⟩ := zc
    obtain ⟨zf0, zf1, zf2, zf3, zf4, zf5, zf6, zf7⟩ := zf
    have hBs := set8_blk (v0 := .int .i64 0) (v1 := .int .i64 0) (v2 := .slice none 0 0) (v3 := .int .i64 0) (v4 := .int .i64 0) (v5 := .int .i64 0) (v6 := .int .i64 0) (v7 := .int .i64 0) hZ8
    have bs := b8.trans (set8_below (B := w.heap.size) (W := W7) (R := g) (v0 := .int .i64 0) (v1 := .int .i64 0) (v2 := .slice none 0 0) (v3 := .int .i64 0) (v4 := .int .i64 0) (v5 := .int .i64 0) (v6 := .int .i64 0) (v7 := .int .i64 0) (by have := HGW.out; omega))
    go_wp2_with fail
    have hq := blk8 hBs
    change bodyPost _ _ _ _ _ (set8 W7 g (.int .i64 0) (.int .i64 0) (.slice none 0 0) (.int .i64 0) (.int .i64 0) (.int .i64 0) (.int .i64 0) (.int .i64 0))
    generalize set8 W7 g (.int .i64 0) (.int .i64 0) (.slice none 0 0) (.int .i64 0) (.int .i64 0) (.int .i64 0) (.int .i64 0) (.int .i64 0) = W9 at bs hq ⊢
    obtain ⟨q0, q1, q2, q3, q4, q5, q6, q7⟩ := hq
    refine bodyPost_ret (v := .tuple #[.agg #[.int .i64 0, .int .i64 0, .slice none 0 0, .int .i64 0, .int .i64 0, .int .i64 0, .int .i64 0, .int .i64 0], .int .i64 12]) (by simp [results, Try.results9, go_sem, q0, q1, q2, q3, q4, q5, q6, q7]; try rfl) rfl ?_
    exact ⟨none, 0, rfl, zC_is _ _, by show (0 : Nat) ≤ 100000; omega, bs⟩
  subst he
  rw [if_pos rfl] at hBC
  refine hBC.mono ?_
  rintro e W7 ⟨v7, rfl, o7, b7⟩
  obtain ⟨A7, c7, rfl, r7, f7⟩ := o7.r8n
  have b8 := b6.trans (b7.mono b6.size)
  have hZ8 := hZ6.below b7 hZ6.lt
  have hS8 := hS6.below b7 hS6.lt
  have hl8 := hl6.on b7
  have hR8 := hR6.on b7
  have hB51 := HBL.out rfl
  obtain ⟨nB, hnB⟩ : ∃ m, m = BY.length := ⟨_, rfl⟩
  rw [← hnB] at r7 hB51 ⊢
  have hEq := eq8 A7 nB c7 (some ⟨bb, off, none⟩) n cp BY b W7 r7 hR8 (by omega)
  clear f7 r7 o7 hBC HBC HBL hl6 hS6 hZ6 hR6 b7 b6 z0 z1 z2 z3 z4 z5 z6 z7 zf0 zf1 zf2 zf3 zf4 zf5 zf6 zf7 hbn HV hnB hR8
  by_cases hE : BY = b
  case neg =>
    have hRD : RD = (zC, 12) := by rw [HRD.out, if_neg (fun h => hE h.2)]
    subst hRD
    rw [show (BY == b) = false by simpa using hE] at hEq
    clear hE hl8 hS8
    go_wp2_with fail
    refine hEq.mono ?_
    rintro e W8 ⟨rfl, b9⟩
    have hZ9 := hZ8.below b9 hZ8.lt
    have bA := b8.trans (b9.mono b8.size)
    clear b9 hZ8 hEq HRD
    have zc := blk8 hZ9
    have zf := blk8f hZ9
    obtain ⟨z0, z1, z2, z3, z4, z5, z6, z7⟩ := zc
    obtain ⟨zf0, zf1, zf2, zf3, zf4, zf5, zf6, zf7⟩ := zf
    have hBs := set8_blk (v0 := .int .i64 0) (v1 := .int .i64 0) (v2 := .slice none 0 0) (v3 := .int .i64 0) (v4 := .int .i64 0) (v5 := .int .i64 0) (v6 := .int .i64 0) (v7 := .int .i64 0) hZ9
    have bs := bA.trans (set8_below (B := w.heap.size) (W := W8) (R := g) (v0 := .int .i64 0) (v1 := .int .i64 0) (v2 := .slice none 0 0) (v3 := .int .i64 0) (v4 := .int .i64 0) (v5 := .int .i64 0) (v6 := .int .i64 0) (v7 := .int .i64 0) (by have := HGW.out; omega))
    go_wp2_with fail
    have hq := blk8 hBs
    change bodyPost _ _ _ _ _ (set8 W8 g (.int .i64 0) (.int .i64 0) (.slice none 0 0) (.int .i64 0) (.int .i64 0) (.int .i64 0) (.int .i64 0) (.int .i64 0))
    generalize set8 W8 g (.int .i64 0) (.int .i64 0) (.slice none 0 0) (.int .i64 0) (.int .i64 0) (.int .i64 0) (.int .i64 0) (.int .i64 0) = W9 at bs hq ⊢
    obtain ⟨q0, q1, q2, q3, q4, q5, q6, q7⟩ := hq
    refine bodyPost_ret (v := .tuple #[.agg #[.int .i64 0, .int .i64 0, .slice none 0 0, .int .i64 0, .int .i64 0, .int .i64 0, .int .i64 0, .int .i64 0], .int .i64 12]) (by simp [results, Try.results9, go_sem, q0, q1, q2, q3, q4, q5, q6, q7]; try rfl) rfl ?_
    exact ⟨none, 0, rfl, zC_is _ _, by show (0 : Nat) ≤ 100000; omega, bs⟩
  have hRD : RD = (⟨gk, gc, gl, ge, gh, gs, gy, gd⟩, 0) := by rw [HRD.out, if_pos ⟨rfl, hE⟩]
  subst hRD
  rw [show (BY == b) = true by simpa using hE] at hEq
  clear hE
  go_wp2_with fail
  refine hEq.mono ?_
  rintro e W8 ⟨rfl, b9⟩
  have hZ9 := hZ8.below b9 hZ8.lt
  have hS9 := hS8.below b9 hS8.lt
  have hl9 := hl8.on b9
  have bA := b8.trans (b9.mono b8.size)
  clear b9 hZ8 hEq HRD hS8 hl8 b8
  obtain ⟨k0, k1, k2, k3, k4, k5, k6, k7⟩ := blk8c hS9
  obtain ⟨z0, z1, z2, z3, z4, z5, z6, z7⟩ := blk8 hZ9
  obtain ⟨zf0, zf1, zf2, zf3, zf4, zf5, zf6, zf7⟩ := blk8f hZ9
  have hBs := set8_blk (v0 := .int .i64 gk) (v1 := .int .i64 gc) (v2 := .slice A' gm cp') (v3 := .int .i64 ge) (v4 := .int .i64 gh) (v5 := .int .i64 gs) (v6 := .int .i64 gy) (v7 := .int .i64 gd) hZ9
  have bs := bA.trans (set8_below (B := w.heap.size) (W := W8) (R := g) (v0 := .int .i64 gk) (v1 := .int .i64 gc) (v2 := .slice A' gm cp') (v3 := .int .i64 ge) (v4 := .int .i64 gh) (v5 := .int .i64 gs) (v6 := .int .i64 gy) (v7 := .int .i64 gd) (by have := HGW.out; omega))
  have hrs := RL.set8z hl9 hZ9 (.int .i64 gk) (.int .i64 gc) (.slice A' gm cp') (.int .i64 ge) (.int .i64 gh) (.int .i64 gs) (.int .i64 gy) (.int .i64 gd)
  clear hl9 hZ9 hS9 bA
  go_wp2_with fail
  have hq := blk8 hBs
  change bodyPost _ _ _ _ _ (set8 W8 g (.int .i64 gk) (.int .i64 gc) (.slice A' gm cp') (.int .i64 ge) (.int .i64 gh) (.int .i64 gs) (.int .i64 gy) (.int .i64 gd))
  generalize set8 W8 g (.int .i64 gk) (.int .i64 gc) (.slice A' gm cp') (.int .i64 ge) (.int .i64 gh) (.int .i64 gs) (.int .i64 gy) (.int .i64 gd) = W9 at bs hq hrs ⊢
  obtain ⟨q0, q1, q2, q3, q4, q5, q6, q7⟩ := hq
  refine bodyPost_ret (v := .tuple #[.agg #[.int .i64 gk, .int .i64 gc, .slice A' gm cp', .int .i64 ge, .int .i64 gh, .int .i64 gs, .int .i64 gy, .int .i64 gd], .int .i64 0]) (by simp [results, Try.results9, go_sem, q0, q1, q2, q3, q4, q5, q6, q7]; try rfl) rfl ?_
  have hI := HCI.out
  exact ⟨A', cp', by rw [← HGM.out], ⟨by simp only; rw [HGM.out]; exact hrs, hI.kind, hI.cap, hI.peer, hI.height, hI.cls, hI.layer, hI.code⟩, by simp only; rw [HGM.out]; exact hlen, bs⟩
end Go.Proofs.Ytgjncaobcgjefaa.RP
