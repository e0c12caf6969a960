/- Contracts: ctl.put, ctl.layerBytes. Contract: ctl.fieldBytes, of right messages. -/
import Derived.Test.YtgjncaobcgjefaaClA
import Derived.Test.YtgjncaobcgjefaaNi
import Derived.Test.YtgjncaobcgjefaaCtX
import Derived.Test.YtgjncaobcgjefaaNa
import Derived.Lib.ConvBytes
import Derived.Test.YtgjncaobcgjefaaClF
namespace Go.Proofs.Ytgjncaobcgjefaa.RP
open Go.RowKit
set_option linter.unusedVariables false
set_option linter.unusedSimpArgs false
set_option maxRecDepth 20000

theorem lit2 (w : World) (a b : Nat) (ha : a < 256) (hb : b < 256) : R8 (w.alloc (.cells #[.int .u8 (a : Int), .int .u8 (b : Int)] 5)) (w.alloc (.cells #[.int .u8 (a : Int), .int .u8 (b : Int)] 5)).heap.size (some ⟨w.heap.size, 0, none⟩) 2 2 [UInt8.ofNat a, UInt8.ofNat b] :=
  lit_r8 [UInt8.ofNat a, UInt8.ofNat b] _ 2 (0, 0) rfl (by simp [bv]; omega) w
set_option maxHeartbeats 4000000 in
theorem put_ctl (k : Nat) (hk : k ≤ 7) (A : Option Addr) (m c : Nat) (x : List UInt8) (w : World) (h : R8 w w.heap.size A m c x) (hm : m ≤ 255) : Calls Try.prog 33 #[.int .i64 (k : Int), .slice A m c] w (OwnOut w (fld (UInt8.ofNat k) x)) := by
  have hx := h.1
  have e1 : (k : Int) % 256 = (k : Int) := by omega
  have e2 : (m : Int) % 256 = (m : Int) := by omega
  have y1 : IntKind.u8.wrap (k : Int) = (k : Int) := by simp [IntKind.wrap, IntKind.signed, IntKind.bits]; omega
  have y2 : IntKind.u8.wrap (m : Int) = (m : Int) := by simp [IntKind.wrap, IntKind.signed, IntKind.bits]; omega
  have EF : Hid (fld (UInt8.ofNat k) x = [UInt8.ofNat k, UInt8.ofNat m] ++ x) := Lib.hid (by simp [fld, hx])
  obtain ⟨F, hF⟩ : ∃ F, F = fld (UInt8.ofNat k) x := ⟨_, rfl⟩
  rw [← hF] at EF ⊢
  clear hF hx
  have b1 := below_alloc w (.cells #[.int .u8 (k : Int), .int .u8 (m : Int)] 5)
  have r1 := lit2 w k m (by omega) (by omega)
  have r2 := h.on b1
  obtain ⟨W1, hW1⟩ : ∃ W1, W1 = w.alloc (.cells #[.int .u8 (k : Int), .int .u8 (m : Int)] 5) := ⟨_, rfl⟩
  have hs1 : W1.heap.size = w.heap.size + 1 := by rw [hW1]; simp
  rw [← hW1] at b1 r1 r2
  have b2 := below_alloc W1 (.cells #[.slice (some ⟨w.heap.size, 0, none⟩) 2 2, .slice A m c] 30)
  have hB := Blk.new W1 30 #[.slice (some ⟨w.heap.size, 0, none⟩) 2 2, .slice A m c]
  have r1 := r1.on b2
  have r2 := r2.on b2
  have hgl := hB.lt
  have hb := b1.trans (b2.mono b1.size)
  have k0 := hB.cell 0
  have k1 := hB.cell 1
  simp only [List.getElem?_toArray, List.getElem?_cons_zero, List.getElem?_cons_succ] at k0 k1
  have hC := concat2_own W1.heap.size _ _ 2 2 m c _ _ _ hgl k0 k1 r1 r2 (by omega)
  rw [hs1] at hC
  have HC := Lib.hid hC
  have HB := Lib.hid hb
  have HS := Lib.hid hs1
  clear hC k0 k1 r1 r2 hB b2 b1 h hgl hb hs1
  subst hW1
  go_enter Try.func33, Try.ntmps33
  go_wp2_with fail
  refine HC.out.mono ?_
  rintro e w3 ⟨v, rfl, o3, b3⟩
  have o3 := o3.mono8 HB.out.size
  have b4 := HB.out.trans (b3.mono HB.out.size)
  clear b3
  go_wp2_with fail
  go_ret
  exact ⟨v, rfl, by rw [EF.out]; exact o3, b4⟩
theorem bytesW_below (w : World) (e : TypeId) (s : ByteArray) : Below w.heap.size w (Lib.bytesWorld w e s) :=
  ⟨rfl, rfl, rfl, by rw [Lib.bytesWorld_size]; omega, fun j hj => Lib.bytesWorld_at_old w e s j hj⟩
theorem bytesW_r8 (w : World) (s : ByteArray) : R8 (Lib.bytesWorld w 5 s) (Lib.bytesWorld w 5 s).heap.size (some ⟨w.heap.size, 0, none⟩) s.size (grownCap w s.size 0 5) s.data.toList :=
  ⟨rfl, grownCap_ge w _ _ _, fun _ => ⟨w.heap.size, 0, rfl, by rw [Lib.bytesWorld_size]; omega, fun i hi => by rw [Nat.zero_add]; exact Lib.bytesWorld_cell w _ s i hi⟩⟩
set_option maxHeartbeats 4000000 in
theorem layerBytes_any (x : Lay) (hi : x.In) (hk : okL x = true) (w : World) : Calls Try.prog 36 #[x.val] w (OwnOut w (layB x)) := by
  have hr := layB_len hk
  have ho := (okL_of hk).2
  have hs := hi.ssrc
  obtain ⟨X0, X1, X2⟩ := x
  simp only at hr ho hs
  obtain ⟨X2, rfl⟩ : ∃ n : Nat, X2 = (n : Int) := ⟨X2.toNat, by omega⟩
  have e1 : (X1 : Int) % 18446744073709551616 = (X1 : Int) := by omega
  have y1 : IntKind.u64.wrap (X1 : Int) = (X1 : Int) := by simp [IntKind.wrap, IntKind.signed, IntKind.bits]; omega
  have e2 : (X2 : Int) % 18446744073709551616 = (X2 : Int) := by omega
  have y2 : IntKind.u64.wrap (X2 : Int) = (X2 : Int) := by simp [IntKind.wrap, IntKind.signed, IntKind.bits]; omega
  have EF : Hid (layB ⟨X0, X1, (X2 : Int)⟩ = ([] ++ be X1 4 ++ be X2 2) ++ X0.data.toList) := Lib.hid (by simp [layB])
  obtain ⟨F, hF⟩ : ∃ F, F = layB ⟨X0, X1, (X2 : Int)⟩ := ⟨_, rfl⟩
  rw [← hF] at EF hr ⊢
  clear hF hi hk
  have hz := hr.2.1
  clear hr
  have hcv := fun W => Lib.run_convert_string_bytes (P := Try.prog) W 9 30 5 X0 Try.underlying9 Try.underlying30 Try.underlying5
  have hM := Blk.new w 46 #[.string X0, .int .u32 (X1 : Int), .int .i64 (X2 : Int)]
  have hb0 := below_alloc w (.cells #[.string X0, .int .u32 (X1 : Int), .int .i64 (X2 : Int)] 46)
  go_enter Try.func36, Try.ntmps36
  go_wp2_with fail
  refine (put_yes none 0 0 [] _ (R8.nil _ _ _ _) (by omega) X1 4 (by omega) (by omega) (by omega)).mono ?_
  rintro e W1 ⟨g1, m1, rfl, hm1, hB1, hg1, b1⟩
  have hm1 : m1 = 4 := by unfold Len at hm1; rw [← hm1]; simp [be_len]
  subst hm1
  have hM1 := hM.below b1 hM.lt
  obtain ⟨⟨c0, c1, c2⟩, _⟩ := blk3 hM1
  have hgl := hM1.lt
  have b2 := hb0.trans (b1.mono hb0.size)
  have r1 := hB1.r8 (l := [] ++ be X1 4) (n := 4) (c := 4) (by simp [be_len]) (by omega)
  clear b1 hb0 hM hB1 hg1
  go_wp2_with fail
  refine (put_yes _ 4 4 _ _ r1 (by omega) X2 2 (by omega) (by omega) (by omega)).mono ?_
  rintro e W2 ⟨g2, m2, rfl, hm2, hB2, hg2, b3⟩
  have hm2 : m2 = 6 := by unfold Len at hm2; rw [← hm2]; simp [be_len]
  subst hm2
  have hM2 := hM1.below b3 hgl
  obtain ⟨⟨c0, c1, c2⟩, _⟩ := blk3 hM2
  have b4 := b2.trans (b3.mono b2.size)
  have r2 := hB2.r8 (l := [] ++ be X1 4 ++ be X2 2) (n := 6) (c := 6) (by simp [be_len]) (by omega)
  have b5 := bytesW_below W2 5 X0
  have r3 := bytesW_r8 W2 X0
  have r4 := r2.on b5
  have b6 := b4.trans (b5.mono b4.size)
  clear b3 b2 b4 hM1 r1 r2 hB2 hg2 hgl b5 hM2
  have hc2 := hcv W2
  have hs3 := Lib.bytesWorld_size W2 5 X0
  clear hcv
  obtain ⟨cc, hcc⟩ : ∃ cc, cc = grownCap W2 X0.size 0 5 := ⟨_, rfl⟩
  rw [← hcc] at hc2 r3
  clear hcc
  generalize Lib.bytesWorld W2 5 X0 = W3 at hc2 hs3 r3 r4 b6
  have b7 := below_alloc W3 (.cells #[.slice (some ⟨g2, 0, none⟩) 6 6, .slice (some ⟨W2.heap.size, 0, none⟩) X0.size cc] 30)
  have hB := Blk.new W3 30 #[.slice (some ⟨g2, 0, none⟩) 6 6, .slice (some ⟨W2.heap.size, 0, none⟩) X0.size cc]
  have hC := concat2_own W3.heap.size _ _ 6 6 X0.size cc _ _ _ hB.lt (hB.cell 0) (hB.cell 1) (r4.on b7) (r3.on b7) (by omega)
  have b8 := b6.trans (b7.mono b6.size)
  have HC := Lib.hid hC
  clear hC b7 r3 r4 hs3 hB
  go_wp2_with fail
  refine HC.out.mono ?_
  rintro e w3 ⟨v, rfl, o3, b3⟩
  have o3 := o3.mono8 b8.size
  have b4 := b8.trans (b3.mono b8.size)
  clear b3
  go_wp2_with fail
  go_ret
  exact ⟨v, rfl, by rw [EF.out]; exact o3, b4⟩
end Go.Proofs.Ytgjncaobcgjefaa.RP
namespace Go.Proofs.Ytgjncaobcgjefaa.RP
open Go.RowKit
set_option linter.unusedVariables false
set_option linter.unusedSimpArgs false
set_option maxRecDepth 20000

theorem firstE_zero : ∀ {l : List Int}, firstE l = 0 → ∀ y ∈ l, y = 0
  | [], _, y, hy => by simp at hy
  | x :: r, h, y, hy => by
    by_cases hx : x = 0
    · simp only [firstE, if_pos hx] at h
      rcases List.mem_cons.1 hy with rfl | hy
      · exact hx
      · exact firstE_zero h y hy
    · simp only [firstE, if_neg hx] at h
      exact absurd h hx
theorem fits_zero {x : Ctl} (h : x.Ok) {n : Int} (hn : n ∈ names x.kind) : x.fits n = 0 := by
  have h0 := (Ctl.ok_iff x).2 h
  rw [← errP_eq] at h0
  unfold Ctl.errP at h0
  split at h0
  · cases h0
  · split at h0
    · cases h0
    · exact firstE_zero h0 _ (List.mem_map_of_mem hn)
theorem num_of {x : Ctl} (h : x.Ok) {n : Int} (hn : n ∈ names x.kind) (h2 : n ≠ 2) : 0 ≤ x.num n ∧ x.num n ≤ 1099511627776 := by
  have h0 := fits_zero h hn
  unfold Ctl.fits at h0
  rw [if_neg h2] at h0
  split at h0
  · cases h0
  · split at h0
    · cases h0
    · rename_i a b
      have hl : 0 ≤ rLeast n := by unfold rLeast; (repeat' split) <;> omega
      have hm : rMost n ≤ 1099511627776 := by unfold rMost; (repeat' split) <;> omega
      omega
theorem names_two {k : Int} (h : (2 : Int) ∈ names k) : k = 3 := by
  unfold names at h
  repeat' split at h
  all_goals simp at h; try assumption
theorem layF_len8 (l : List Lay) (h : ∀ x ∈ l, okL x = true) : (fldB (l.map fun x => ((2 : UInt8), layB x))).length ≤ 16 * l.length := by
  have := fldB_len (l := l.map fun x => ((2 : UInt8), layB x)) fun p hp => by
    obtain ⟨x, hx, rfl⟩ := List.mem_map.1 hp
    have := layB_len (h x hx)
    simp only
    omega
  simpa using this
theorem layF_take8 (l : List Lay) (q : Nat) (h : q < l.length) : fldB ((l.take (q + 1)).map fun x => ((2 : UInt8), layB x)) = fldB ((l.take q).map fun x => ((2 : UInt8), layB x)) ++ fld 2 (layB l[q]) := by
  rw [List.take_add_one, List.getElem?_eq_getElem h, List.map_append, fldB_app]
  simp [fldB]
theorem run_rule0 (a b c : Int) (w : World) : (Instr.field 72 (.agg #[.int .i64 a, .int .i64 b, .int .i64 c]) 0).run Try.prog w = .ok (.int .i64 a) w := by kernel_rfl
set_option maxHeartbeats 8000000 in
theorem fieldBytes_any (x : Ctl) (hx : x.Ok) (A : Option Addr) (cp : Nat) (n : Int) (hn : n ∈ names x.kind) (w : World) (hl : RL w w.heap.size A x.layers.length cp x.layers) : Calls Try.prog 20 #[x.val A cp, .int .i64 n] w (OwnOut w (x.fieldB n)) := by
  have hM := Blk.new w 25 (x.cells A cp)
  have hb0 := below_alloc w (.cells (x.cells A cp) 25)
  have h17 := names_at hn
  by_cases h2 : n = 2
  case neg =>
    have hv := num_of hx hn h2
    have hn' : n = 1 ∨ n = 3 ∨ n = 4 ∨ n = 5 ∨ n = 6 ∨ n = 7 := by omega
    have e2 : (n != 2) = true := by simpa using h2
    have HN := Lib.hid (number_any x A cp n hn')
    have HR := Lib.hid (ruleOf_any n hn')
    unfold ruleV at HR
    have hsz : 1 ≤ rSize n ∧ rSize n ≤ 8 := by unfold rSize; (repeat' split) <;> omega
    have e0 : x.fieldB n = fld (UInt8.ofNat n.toNat) (be (x.num n).toNat (rSize n)) := by unfold Ctl.fieldB; rw [if_neg h2]
    rw [e0]
    obtain ⟨k, rfl⟩ : ∃ k : Nat, n = (k : Int) := ⟨n.toNat, by omega⟩
    rw [Int.toNat_natCast]
    generalize x.num (k : Int) = v at HN hv ⊢
    obtain ⟨v, rfl⟩ : ∃ m : Nat, v = (m : Int) := ⟨v.toNat, by omega⟩
    rw [Int.toNat_natCast]
    generalize rLeast (k : Int) = lo at HR
    generalize rMost (k : Int) = hi at HR
    generalize rSize (k : Int) = sz at HR hsz ⊢
    have e1 : (v : Int) % 18446744073709551616 = (v : Int) := by omega
    have y1 : IntKind.u64.wrap (v : Int) = (v : Int) := by simp [IntKind.wrap, IntKind.signed, IntKind.bits]; omega
    have EF : Hid (([] ++ be v sz : List UInt8).length = sz) := Lib.hid (by simp [be_len])
    clear e0 hl hn hn' h2 hx
    obtain ⟨kk, p, l, e, h, s, y, d⟩ := x
    simp only [Ctl.val, Ctl.cells] at hM hb0 HN ⊢
    generalize l.length = m at HN hM hb0 ⊢
    go_enter Try.func20, Try.ntmps20
    go_wp2_with fail
    refine (HN.out _).mono ?_
    rintro e' w1 ⟨rfl, b1⟩
    have b2 := hb0.trans (b1.mono hb0.size)
    clear b1
    go_wp2_with fail
    refine (HR.out _).mono ?_
    rintro e' w2 ⟨rfl, b1⟩
    have b3 := b2.trans (b1.mono b2.size)
    clear b1 b2 hb0 hM
    have hfl := run_rule0 (sz : Int) lo hi w2
    go_wp2_with fail
    clear hfl
    refine (put_yes none 0 0 [] w2 (R8.nil _ _ _ _) (by omega) v sz hsz.1 hsz.2 (by omega)).mono ?_
    rintro e' w3 ⟨g, m3, rfl, hm3, hB, hg, b1⟩
    have hm3' : m3 = sz := by unfold Len at hm3; rw [← hm3]; exact EF.out
    subst hm3'
    have r1 := hB.r8 (l := [] ++ be v m3) (n := m3) (c := m3) EF.out (by omega)
    have b4 := b3.trans (b1.mono b3.size)
    clear b1 b3 hB hg hm3
    go_wp2_with fail
    refine (put_ctl k (by omega) _ m3 m3 _ w3 r1 (by omega)).mono ?_
    rintro e' w4 ⟨v', rfl, o4, b1⟩
    have o4 := o4.mono8 b4.size
    have b5 := b4.trans (b1.mono b4.size)
    clear b1 b4 r1
    go_wp2_with fail
    go_ret
    exact ⟨v', rfl, o4, b5⟩
  subst h2
  have hk3 := names_two hn
  have hrl := hx.layers
  rw [if_pos hk3] at hrl
  have hR := rightL_of hrl
  have e0 : x.fieldB 2 = fldB (x.layers.map fun y => (2, layB y)) := rfl
  rw [e0]
  clear hn h17 hk3 hrl e0 hx
  obtain ⟨k, p, l, e, h, s, y, d⟩ := x
  simp only [Ctl.val, Ctl.cells] at hM hb0 hl hR ⊢
  have HOK := Lib.hid hR.2.1
  have hl3 := hR.1.2
  clear hR
  have HTK := Lib.hid (layF_take8 l)
  have HLE : Hid (∀ q, (fldB ((l.take q).map fun x => ((2 : UInt8), layB x))).length ≤ 48) := Lib.hid fun q => by
    have h1 := layF_len8 (l.take q) fun x hx => HOK.out x (List.mem_of_mem_take hx)
    have h2 : (l.take q).length ≤ 3 := by rw [List.length_take]; omega
    omega
  obtain ⟨F, hF⟩ : ∃ F : Nat → List UInt8, F = fun q => fldB ((l.take q).map fun x => ((2 : UInt8), layB x)) := ⟨_, rfl⟩
  have e0 : fldB (l.map fun y => ((2 : UInt8), layB y)) = F l.length := by rw [hF]; simp
  have HTK : Hid (∀ (q : Nat) (h : q < l.length), F (q + 1) = F q ++ fld 2 (layB l[q])) := Lib.hid fun q h => by rw [hF]; exact HTK.out q h
  have HLE : Hid (∀ q, (F q).length ≤ 48) := Lib.hid fun q => by rw [hF]; exact HLE.out q
  have HF0 : Hid (F 0 = []) := Lib.hid (by rw [hF]; rfl)
  rw [e0]
  clear e0 hF
  generalize hm : l.length = m at hM hb0 hl hl3 ⊢
  have HLN := Lib.hid hm
  clear hm
  go_enter Try.func20, Try.ntmps20
  go_wp2_with fail
  generalize w.alloc (.cells #[.int .i64 k, .int .i64 p, .slice A m cp, .int .i64 e, .int .i64 h, .int .i64 s, .int .i64 y, .int .i64 d] 25) = W0 at hM hb0 ⊢
  obtain ⟨g, hg⟩ : ∃ g, g = w.heap.size := ⟨_, rfl⟩
  rw [← hg] at hM ⊢
  have HG := Lib.hid hg
  clear hg
  go_loopw [5, 7, 23] (fun v _ i wr => ∃ q : Nat, q ≤ m ∧ i = .int .i64 (q : Int) ∧ Own8 wr w.heap.size v (F q) ∧ Below w.heap.size w wr) (fun _ _ i _ => m - (intOf i).toNat)
  case atStart => exact ⟨0, by omega, rfl, by rw [HF0.out]; exact own_nil _ _ _ _, hb0⟩
  obtain ⟨q, hq, rfl, ho, hbr⟩ := hrel
  obtain ⟨Ab, cb, hv, rb, fb⟩ := ho.r8n
  subst hv
  by_cases hlt : q < m
  case neg =>
    have g3 : ¬ (q : Int) < (m : Int) := by omega
    have hqm : q = m := by omega
    subst hqm
    clear HTK HOK
    go_wp2_with fail
    go_ret
    exact ⟨_, rfl, ho, hbr⟩
  have g3 : decide ((q : Int) < (m : Int)) = true := by simp; omega
  have hql : q < l.length := by rw [HLN.out]; exact hlt
  obtain ⟨b, off, rfl, hbl, k0, k1, k2⟩ := (hl.below hbr).at hql
  have hs := hbr.size
  have hg0 : b < wr.heap.size := by omega
  have hin := Lib.hid (hl.2.1 _ (List.getElem_mem hql))
  have hok := Lib.hid (HOK.out _ (List.getElem_mem hql))
  have HT := Lib.hid (HTK.out q hql)
  have HLq := Lib.hid (HLE.out q)
  have HLy := Lib.hid (layB_len hok.out)
  generalize l[q] = X at k0 k1 k2 hin hok HT HLy
  obtain ⟨X0, X1, X2⟩ := X
  simp only at k0 k1 k2
  have b7 := hbr.trans ((below_alloc wr (.cells #[.string X0, .int .u32 (X1 : Int), .int .i64 X2] 46)).mono hs)
  have rb7 := rb.on (below_alloc wr (.cells #[.string X0, .int .u32 (X1 : Int), .int .i64 X2] 46))
  have hLB := layerBytes_any ⟨X0, X1, X2⟩ hin.out hok.out (wr.alloc (.cells #[.string X0, .int .u32 (X1 : Int), .int .i64 X2] 46))
  simp only [Lay.val, Lay.cells] at hLB
  clear hbr ho rb fb
  go_upto_region 7 with (fail)
  go_wp2_with fail
  refine hLB.mono ?_
  rintro e' w1 ⟨v1, rfl, o1, b1⟩
  obtain ⟨A1, c1, rfl, r1, f1⟩ := o1.r8n
  clear f1
  have b8 := b7.trans (b1.mono b7.size)
  have rb8 := rb7.on b1
  obtain ⟨nn, hnn⟩ : ∃ nn, nn = (layB ⟨X0, X1, X2⟩).length := ⟨_, rfl⟩
  rw [← hnn] at r1 ⊢
  have hn14 : nn ≤ 14 := by
    have h1 : (layB ⟨X0, X1, X2⟩).length = 6 + X0.size := HLy.out.1
    have h2 : X0.size ≤ 8 := HLy.out.2.1
    omega
  clear b1 b7 rb7 o1 hLB k0 k1 k2 hg0 hnn
  have hP : Calls Try.prog 33 #[.int .i64 2, .slice A1 nn c1] w1 (OwnOut w1 (fld 2 (layB ⟨X0, X1, X2⟩))) := put_ctl 2 (by omega) A1 nn c1 _ w1 r1 (by omega)
  have HFL : Hid ((fld 2 (layB ⟨X0, X1, X2⟩)).length ≤ 16) := Lib.hid (by
    have h1 : (layB ⟨X0, X1, X2⟩).length = 6 + X0.size := HLy.out.1
    have h2 : X0.size ≤ 8 := HLy.out.2.1
    simp only [fld, List.length_cons, h1]
    omega)
  generalize fld 2 (layB ⟨X0, X1, X2⟩) = Z at hP HT HFL
  go_wp2_with fail
  refine hP.mono ?_
  rintro e' w2 ⟨v2, rfl, o2, b1⟩
  obtain ⟨A2, c2, rfl, r2, f2⟩ := o2.r8n
  clear f2
  have b9 := b8.trans (b1.mono b8.size)
  have rb9 := rb8.on b1
  clear b1 b8 rb8 o2 hP r1
  obtain ⟨nZ, hZ⟩ : ∃ n, n = Z.length := ⟨_, rfl⟩
  obtain ⟨nF, hF⟩ : ∃ n, n = (F q).length := ⟨_, rfl⟩
  have hZ16 : nZ ≤ 16 := by rw [hZ]; exact HFL.out
  have hF48 : nF ≤ 48 := by rw [hF]; exact HLq.out
  rw [← hZ] at r2 ⊢
  rw [← hF] at rb9 ⊢
  clear hZ hF
  have hB := Blk.new w2 30 #[.slice Ab nF cb, .slice A2 nZ c2]
  have b7 := below_alloc w2 (.cells #[.slice Ab nF cb, .slice A2 nZ c2] 30)
  have HC := Lib.hid (concat2_own w2.heap.size _ _ nF cb nZ c2 _ _ _ hB.lt (hB.cell 0) (hB.cell 1) (rb9.on b7) (r2.on b7) (by omega))
  have bA := b9.trans (b7.mono b9.size)
  clear b7 r2 rb9 hB
  go_wp2_with fail
  refine HC.out.mono ?_
  rintro e' w3 ⟨v3, rfl, o3, b3⟩
  have o3 := o3.mono8 bA.size
  have bB := bA.trans (b3.mono bA.size)
  rw [← HT.out] at o3
  clear b3 bA b9
  go_wp2_with fail
  go_roundw
  case rel => exact ⟨q + 1, by omega, by go_num, o3, bB⟩
  case measure => simp [intOf]; omega
end Go.Proofs.Ytgjncaobcgjefaa.RP
