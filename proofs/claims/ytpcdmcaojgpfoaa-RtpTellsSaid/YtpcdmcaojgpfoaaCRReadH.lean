/- Contracts: rtp.readHead, readWords. -/
import Derived.Test.YtpcdmcaojgpfoaaCRFind
import Derived.Test.YtpcdmcaojgpfoaaPkMem
import Derived.StillTailTactics
namespace Go.Proofs.Ytpcdmcaojgpfoaa
open Go.RowKit
set_option linter.unusedVariables false
set_option linter.unusedSimpArgs false
set_option maxRecDepth 20000

theorem rtp_num (A : Option Addr) (n c : Nat) (l : List UInt8) (w : World) (h : R8 w w.heap.size A n c l) (hn : n ≤ 1500) (i k : Nat) (hk : 1 ≤ k) (hk8 : k ≤ 8) (hi : i + k ≤ n) (x y : Int) (hx : x = i) (hy : y = k) :
    Calls Try.prog 62 #[.slice A n c, .int .i64 x, .int .i64 y] w fun e w' => e = .returned (.int .u64 (gn l i k : Nat)) ∧ w' = w := by
  subst hx; subst hy
  refine (rtp_number A n c l w h (by omega) i k (by unfold I64; omega)).mono ?_
  rintro e w' ⟨rfl, rfl⟩
  rw [getN_gn l i k hk hk8 (by have := h.1; omega)]
  exact ⟨rfl, rfl⟩
def headV (l : List UInt8) : Value := .agg #[.bool (decide (bt l 1 / 128 = 1)), .int .i64 ((bt l 1 % 128 : Nat) : Int), .int .u16 (gn l 2 2 : Nat), .int .u32 (gn l 4 4 : Nat), .int .u32 (gn l 8 4 : Nat), .slice none 0 0, .int .u16 0, .slice none 0 0, .slice none 0 0]
set_option maxHeartbeats 2000000 in
theorem rtp_readHead (A : Option Addr) (n c : Nat) (l : List UInt8) (w : World) (h : R8 w w.heap.size A n c l) (h12 : 12 ≤ n) (hn : n ≤ 1500) :
    Calls Try.prog 60 #[.slice A n c] w fun e w' => e = .returned (headV l) ∧ Below w.heap.size w w' := by
  have hbt := bt_lt l 1
  have hZ : Blk (w.alloc (.cells #[.bool false, .int .i64 0, .int .u16 0, .int .u32 0, .int .u32 0, .slice none 0 0, .int .u16 0, .slice none 0 0, .slice none 0 0] 28)) w.heap.size 28 #[.bool false, .int .i64 0, .int .u16 0, .int .u32 0, .int .u32 0, .slice none 0 0, .int .u16 0, .slice none 0 0, .slice none 0 0] := Blk.new _ _ _
  have hb : Below w.heap.size w (w.alloc (.cells #[.bool false, .int .i64 0, .int .u16 0, .int .u32 0, .int .u32 0, .slice none 0 0, .int .u16 0, .slice none 0 0, .slice none 0 0] 28)) := (Below.refl _ w).alloc (Nat.le_refl _) _
  have hr := h.on hb
  obtain ⟨b, off, rfl, hlt, hc⟩ := h.2.2 (by omega)
  unfold headV
  have q1 := gn_lt l 2 2
  have q2 := gn_lt l 4 4
  have q3 := gn_lt l 8 4
  have e1 : (bits BinOp.and .u8 (bt l 1 : Int) 128 != 0) = decide (bt l 1 / 128 = 1) := by
    rw [and128 _ hbt]
    by_cases h1 : bt l 1 / 128 = 1
    · rw [h1]; rfl
    · rw [show bt l 1 / 128 = 0 by omega]; rfl
  have e2 : bits BinOp.and .u8 (bt l 1 : Int) 127 = ((bt l 1 % 128 : Nat) : Int) := and127 _ hbt
  obtain ⟨T, hT⟩ : ∃ T, bt l 1 % 128 = T := ⟨_, rfl⟩
  have hT9 : T < 128 := by omega
  rw [hT] at e2 ⊢
  obtain ⟨D, hD⟩ : ∃ D, decide (bt l 1 / 128 = 1) = D := ⟨_, rfl⟩
  rw [hD] at e1 ⊢
  have n1 := fun W (hr : R8 W W.heap.size (some ⟨b, off, none⟩) n c l) => rtp_num _ n c l W hr hn 2 2 (by omega) (by omega) (by omega) 2 2 rfl rfl
  have n2 := fun W (hr : R8 W W.heap.size (some ⟨b, off, none⟩) n c l) => rtp_num _ n c l W hr hn 4 4 (by omega) (by omega) (by omega) 4 4 rfl rfl
  have n3 := fun W (hr : R8 W W.heap.size (some ⟨b, off, none⟩) n c l) => rtp_num _ n c l W hr hn 8 4 (by omega) (by omega) (by omega) 8 4 rfl rfl
  generalize gn l 2 2 = N2 at n1 q1 ⊢
  generalize gn l 4 4 = N4 at n2 q2 ⊢
  generalize gn l 8 4 = N8 at n3 q3 ⊢
  have u0 : IntKind.i64.wrap (T : Int) = T := by rw [IntKind.wrap_i64]; omega
  have u1 : IntKind.u16.wrap (N2 : Int) = N2 := by show (N2 : Int) % 65536 = N2; omega
  have u2 : IntKind.u32.wrap (N4 : Int) = N4 := by show (N4 : Int) % 4294967296 = N4; omega
  have u3 : IntKind.u32.wrap (N8 : Int) = N8 := by show (N8 : Int) % 4294967296 = N8; omega
  go_enter Try.func60, Try.ntmps60
  go_upto_region 1 with (fail)
  revert hZ hb hr
  generalize w.alloc (.cells #[.bool false, .int .i64 0, .int .u16 0, .int .u32 0, .int .u32 0, .slice none 0 0, .int .u16 0, .slice none 0 0, .slice none 0 0] 28) = W
  intro hZ hb hr
  have c1 : W.cell? ⟨b, off + 1, none⟩ = some (.int .u8 (bt l 1 : Int)) := (hb.cell (p := ⟨b, off + 1, none⟩) hlt).trans (by have := hc 1 (by omega); exact this)
  have n1 := n1 W.drew hr
  have n2 := n2 W.drew hr
  have n3 := n3 W.drew hr
  have g1 : (1 : Int) < (n : Int) := by omega
  have bb : Below w.heap.size w W.drew := hb.drew
  have hZ : Blk W.drew w.heap.size 28 #[.bool false, .int .i64 0, .int .u16 0, .int .u32 0, .int .u32 0, .slice none 0 0, .int .u16 0, .slice none 0 0, .slice none 0 0] := hZ
  clear hT hD h hr hc hb
  go_still_tail 20, (by kernel_rfl)
  still_call n1
  repeat still_step
  still_call n2
  repeat still_step
  still_call n3
  repeat still_step
  refine wpStill_nil ?_
  have hk := hZ.frozen
  change wpList _ _ _ _ _ W.drew
  generalize W.drew = V at hZ bb
  obtain ⟨k0, k1, k2, k3, k4, k5, k6, k7, k8⟩ := blk9 hZ
  have z0 := hZ.frozen 0
  have z1 := hZ.frozen 1
  have z2 := hZ.frozen 2
  have z3 := hZ.frozen 3
  have z4 := hZ.frozen 4
  have z5 := hZ.frozen 5
  have z6 := hZ.frozen 6
  have z7 := hZ.frozen 7
  have z8 := hZ.frozen 8
  go_wp2_with fail
  have hF := set9_blk (v0 := .bool D) (v1 := .int .i64 T) (v2 := .int .u16 N2) (v3 := .int .u32 N4) (v4 := .int .u32 N8) (v5 := .slice none 0 0) (v6 := .int .u16 0) (v7 := .slice none 0 0) (v8 := .slice none 0 0) hZ
  have hG := bb.trans (set9_below (W := V) (R := w.heap.size) (v0 := .bool D) (v1 := .int .i64 T) (v2 := .int .u16 N2) (v3 := .int .u32 N4) (v4 := .int .u32 N8) (v5 := .slice none 0 0) (v6 := .int .u16 0) (v7 := .slice none 0 0) (v8 := .slice none 0 0) (Nat.le_refl _))
  change bodyPost _ _ _ _ _ (set9 V w.heap.size (.bool D) (.int .i64 T) (.int .u16 N2) (.int .u32 N4) (.int .u32 N8) (.slice none 0 0) (.int .u16 0) (.slice none 0 0) (.slice none 0 0))
  generalize set9 V w.heap.size (.bool D) (.int .i64 T) (.int .u16 N2) (.int .u32 N4) (.int .u32 N8) (.slice none 0 0) (.int .u16 0) (.slice none 0 0) (.slice none 0 0) = WF at hF hG ⊢
  clear k0 k1 k2 k3 k4 k5 k6 k7 k8
  obtain ⟨k0, k1, k2, k3, k4, k5, k6, k7, k8⟩ := blk9 hF
  refine bodyPost_ret (by simp [results, Try.results60, go_sem, k0, k1, k2, k3, k4, k5, k6, k7, k8]; try rfl) rfl ?_
  exact ⟨rfl, hG⟩
/-- The words of a row, four bytes each. -/
theorem rtp_readWords (A : Option Addr) (n c : Nat) (l : List UInt8) (w : World) (h : R8 w w.heap.size A (4 * n) c l) (hn : n ≤ 15) :
    Calls Try.prog 61 #[.slice A (4 * n) c] w fun e w' => ∃ A' c', e = .returned (.slice A' n c') ∧ R32 w' w'.heap.size A' n c' ((List.range n).map fun i => gn l (4 * i) 4) ∧ Below w.heap.size w w' ∧ ∀ ad, A' = some ad → w.heap.size ≤ ad.block := by
  have hl := Lib.hid h.1
  go_enter Try.func61, Try.ntmps61
  go_wp2_with fail
  go_loopw [3, 4] (fun v i wr => ∃ q : Nat, q ≤ n ∧ i = .int .i64 (4 * (q : Int)) ∧ Own32 wr w.heap.size v ((List.range q).map fun i => gn l (4 * i) 4) ∧ Below w.heap.size w wr) (fun _ i _ => 4 * n - (intOf i).toNat)
  case atStart => exact ⟨0, by omega, rfl, Own32.nil _ _, Below.refl _ _⟩
  case round =>
    obtain ⟨q, hq, rfl, ho, hb⟩ := hrel
    by_cases hlt : q < n
    · have g3 : 4 * (q : Int) < 4 * (n : Int) := by omega
      have hnum := rtp_num A (4 * n) c l _ (h.on hb) (by omega) (4 * q) 4 (by omega) (by omega) (by omega) (4 * (q : Int)) 4 (by omega) rfl
      have hx := gn_lt l (4 * q) 4
      have e5 := Lib.hid (show ((List.range q).map fun i => gn l (4 * i) 4) ++ [gn l (4 * q) 4] = (List.range (q + 1)).map fun i => gn l (4 * i) 4 by rw [List.range_succ]; simp)
      have e6 := Lib.hid (show ((List.range q).map fun i => gn l (4 * i) 4).length = q by simp)
      generalize ((List.range q).map fun i => gn l (4 * i) 4) = Lq at ho e5 e6
      generalize gn l (4 * q) 4 = X at hnum hx e5
      have u3 : (X : Int) % 4294967296 = X := by omega
      have hs := hb.size
      go_wp2_with fail
      refine hnum.mono ?_
      rintro e w' ⟨rfl, hw'⟩
      have hw'' := Lib.hid hw'
      have ho2 : Own32 w' w.heap.size _ Lq := hw'.symm ▸ ho
      have hb2 : Below w.heap.size w w' := hw'.symm ▸ hb
      have hs2 := hb2.size
      have hl1 := Lib.hid (show Lq.length + 1 ≤ maxLen by rw [e6.out]; simp only [maxLen]; omega)
      have hl2 := Lib.hid (show (Lq.length + 1) * 4 ≤ 140737488355328 by rw [e6.out]; omega)
      clear hw' ho hb hnum hw''
      go_wp2_with (at_builtin; (go_loud (with_reducible refine wpList_appendG rfl (.tmp 11) (.tmp 16) 25 25 24 rfl rfl _ 1 4 Try.underlying25 u32_info rfl (by decide) w.heap.size _ Lq.length (Lq.map wv) (by with_unfolding_all rfl) (by with_unfolding_all exact World.ownsRow.alloc ho2 _) (⟨w'.heap.size, 0, none⟩) 1 1 [wv X] (by with_unfolding_all rfl) rfl (by with_unfolding_all exact one_word w' X) (one_word_cell X) hl1.out hl2.out (le_alloc hs2 _) ?_); intro v9 w9 ha9))
      have ho9 : Own32 w9 w.heap.size v9 (Lq ++ [X]) := by
        unfold Own32
        rw [List.length_append, List.map_append]
        exact ha9.1
      have hb9 := ha9.below (hb2.alloc hs2 _) (le_alloc hs2 _) (by with_unfolding_all exact World.ownsRow.alloc ho2 _) (Nat.le_refl _)
      rw [e5.out] at ho9
      clear ho2 hb2 ha9
      go_roundw
      case rel => exact ⟨q + 1, by omega, by first | rfl | (congr 1; omega) | (congr 1; unfold wrap64; omega), ho9, hb9⟩
      case measure => simp [intOf]; omega
    · have g3 : ¬ 4 * (q : Int) < 4 * (n : Int) := by omega
      have hqn : q = n := by omega
      have ho' : Own32 _ _ _ ((List.range n).map fun i => gn l (4 * i) 4) := hqn ▸ ho
      obtain ⟨A', c', hv, hr⟩ := ho'.r32 (by
        intro x hx
        obtain ⟨i, _, rfl⟩ := List.mem_map.1 hx
        have := gn_lt l (4 * i) 4
        simpa using this)
      have e7 : ((List.range n).map fun i => gn l (4 * i) 4).length = n := by simp
      have hfar : ∀ ad, A' = some ad → w.heap.size ≤ ad.block := fun ad e => (World.ownsRow.lt ho' ad.block (by rw [hv, e]; rfl)).1
      rw [e7] at hv hr
      subst hv
      have hrh := Lib.hid hr
      clear hr ho ho' hqn e7
      go_wp2_with fail
      go_ret
      exact ⟨A', c', rfl, hrh.out, hb, hfar⟩
end Go.Proofs.Ytpcdmcaojgpfoaa
