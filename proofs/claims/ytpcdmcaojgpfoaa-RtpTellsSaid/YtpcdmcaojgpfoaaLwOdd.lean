/- Contract: limelightlaw3.odd. -/
import Derived.Test.YtpcdmcaojgpfoaaPkMem
import Derived.Test.YtpcdmcaojgpfoaaTape
import Derived.Test.YtpcdmcaojgpfoaaCWithinE
import Derived.Test.YtpcdmcaojgpfoaaRdOut
import Derived.Handy
import Derived.BigQuiet
import Derived.Deep.CutRange
namespace Go.Proofs.Ytpcdmcaojgpfoaa
open Go.RowKit
set_option linter.unusedVariables false
set_option linter.unusedSimpArgs false
set_option maxRecDepth 20000

theorem and_low (n : Int) (m : Nat) (hm : m < 4294967296) : ∃ k : Nat, k ≤ m ∧ bits BinOp.and .i64 n (m : Int) = (k : Int) := by
  refine ⟨(BitVec.ofInt 64 n &&& BitVec.ofInt 64 (m : Int)).toNat, ?_, ?_⟩
  · rw [BitVec.toNat_and, BitVec.toNat_ofInt]
    refine Nat.le_trans Nat.and_le_right ?_
    simp
    omega
  · have hle : (BitVec.ofInt 64 n &&& BitVec.ofInt 64 (m : Int)).toNat ≤ m := by
      rw [BitVec.toNat_and, BitVec.toNat_ofInt]
      refine Nat.le_trans Nat.and_le_right ?_
      simp
      omega
    show IntKind.i64.wrap ((BitVec.ofInt 64 n &&& BitVec.ofInt 64 (m : Int)).toNat : Int) = _
    rw [IntKind.wrap_i64]
    omega
theorem u32_info' : (Try.prog.info? 24).map (fun i => (i.zero, i.size, i.bytes)) = some (some (.int .u32 0), 1, 4) := by kernel_rfl
def zw (n : Nat) : List Value := (List.replicate n (0 : Nat)).map fun (x : Nat) => .int .u32 (x : Int)
theorem made_u32 (n : Nat) : madeCells #[Value.int .u32 0] n = (zw n).toArray := by
  unfold zw
  apply Array.ext
  · simp [madeCells]
  · intro i h1 h2
    have : i % 1 = 0 := Nat.mod_one i
    simp [madeCells, this]
theorem run_make32 (n : Nat) (hn : n ≤ 1000000) (w : World) :
    (Instr.makeSlice 25 (.int .i64 (n : Int)) (.int .i64 (n : Int))).run Try.prog w = .ok (.slice (some ⟨w.heap.size, 0, none⟩) n n) (w.alloc (.cells (zw n).toArray 24)) := by
  obtain ⟨i0, hi0, hz0, hz1, hz2⟩ := info_parts u32_info'
  have h := run_make (P := Try.prog) w 25 24 i0 _ Try.underlying25 hi0 hz0 .i64 .i64 n n (by omega) (by omega) (by rw [hz2]; omega) (by omega)
  rw [h, hz1]
  simp only [Value.cells, Int.toNat_natCast, Nat.mul_one, made_u32]
theorem new32 (w : World) (n : Nat) : R32 (w.alloc (.cells (zw n).toArray 24)) (w.heap.size + 1) (some ⟨w.heap.size, 0, none⟩) n n (List.replicate n 0) :=
  ⟨by simp, Nat.le_refl _, by simp, fun hn => ⟨w.heap.size, 0, rfl, by omega, fun i hi => by
    rw [Nat.zero_add, (Blk.new w 24 (zw n).toArray).cell i]
    simp [zw, List.getD, hi]⟩⟩
theorem new8 (w : World) (n : Nat) : R8 (w.alloc (.cells (zl n).toArray 5)) (w.heap.size + 1) (some ⟨w.heap.size, 0, none⟩) n n (List.replicate n 0) := by
  have h : Blk (w.alloc (.cells (zl n).toArray 5)) w.heap.size 5 (((List.replicate n (0 : UInt8)).map bv).toArray) := Blk.new _ _ _
  have := h.r8 (n := n) (c := n) (by simp) (Nat.le_refl _)
  simpa using this
theorem new32_at (W : World) (n g : Nat) (hg : g = W.heap.size) : R32 (W.alloc (.cells (zw n).toArray 24)) (W.alloc (.cells (zw n).toArray 24)).heap.size (some ⟨g, 0, none⟩) n n (List.replicate n 0) := by
  subst hg
  exact (new32 W n).more (by simp)
theorem new8_at (W : World) (n g : Nat) (hg : g = W.heap.size) : R8 (W.alloc (.cells (zl n).toArray 5)) (W.alloc (.cells (zl n).toArray 5)).heap.size (some ⟨g, 0, none⟩) n n (List.replicate n 0) := by
  subst hg
  exact (new8 W n).more (by simp)
def OddOut (p : Pkt) (w : World) (e : Ending) (w' : World) : Prop :=
  ∃ (r : Pkt) (C1 : Option Addr) (e1 : Nat) (C2 : Option Addr) (e2 : Nat) (C3 : Option Addr) (e3 : Nat), e = .returned (r.val C1 e1 C2 e2 C3 e3) ∧ IsP w' w'.heap.size C1 e1 C2 e2 C3 e3 r ∧ Below w.heap.size w w' ∧ r.ext.length ≤ p.ext.length + 1
set_option maxHeartbeats 2000000 in
theorem law_odd (p : Pkt) (A1 : Option Addr) (c1 : Nat) (A2 : Option Addr) (c2 : Nat) (A3 : Option Addr) (c3 : Nat) (what n : Int) (w : World) (hp : IsP w w.heap.size A1 c1 A2 c2 A3 c3 p) (hw : I64 what) (hn : I64 n) (hext : p.ext.length ≤ 100000) :
    Calls Try.prog 13 #[p.val A1 c1 A2 c2 A3 c3, .int .i64 what, .int .i64 n] w (OddOut p w) := by
  have hk := hp.kinds
  simp only [Pkt.val]
  obtain ⟨j, hj0, hj5, _, hwj⟩ := within_ex what 0 5 hw (by omega) (by omega) (by omega)
  obtain ⟨j, rfl⟩ := Int.eq_ofNat_of_zero_le hj0
  have hj5 : j ≤ 5 := by omega
  clear hj0
  obtain ⟨k1, hk1, he1⟩ := and_low n 31 (by omega)
  obtain ⟨k2, hk2, he2⟩ := and_low n 2047 (by omega)
  have he1 : bits BinOp.and .i64 n 31 = (k1 : Int) := he1
  have he2 : bits BinOp.and .i64 n 2047 = (k2 : Int) := he2
  have hm1 := fun W => run_make32 k1 (by omega) W
  have hm2 := fun W => run_make8 k2 (by omega) W
  go_enter Try.func13, Try.ntmps13
  go_wp2_with fail
  refine (hwj _).mono ?_
  rintro e w' ⟨rfl, hw'⟩
  obtain rfl := hw'.symm
  obtain rfl | rfl | rfl | rfl | rfl | rfl : j = 0 ∨ j = 1 ∨ j = 2 ∨ j = 3 ∨ j = 4 ∨ j = 5 := by omega
  · clear hm1 hm2 he1 he2
    go_wp2_with fail
    refine bodyPost_ret (by simp [results, Try.results13, go_sem]; try rfl) rfl ?_
    exact ⟨{ p with ty := n }, A1, c1, A2, c2, A3, c3, rfl, ⟨hp.csrc.on (by go_grown), hp.ext.on (by go_grown), hp.pay.on (by go_grown), { hk with ty := hn }⟩, by go_grown, by simp⟩
  · clear hm2 he2
    go_wp2_with fail
    refine bodyPost_ret (by simp [results, Try.results13, go_sem]; try rfl) rfl ?_
    refine ⟨{ p with csrc := List.replicate k1 0 }, some ⟨w.heap.size + 1 + 1, 0, none⟩, k1, A2, c2, A3, c3, ?_, ⟨?_, hp.ext.on (by go_grown), hp.pay.on (by go_grown), ?_⟩, by go_grown, by simp⟩
    · simp [Pkt.val]
    · simp only [List.length_replicate]
      exact new32_at _ _ _ (by simp)
    · exact { hk with csrc := by simp; omega }
  · clear hm1 hm2 he1 he2
    go_upto_region 8 with (fail)
    have s2 : (w.alloc (.cells #[.bool p.m, .int .i64 p.ty, .int .u16 (p.seq : Int), .int .u32 (p.time : Int), .int .u32 (p.ssrc : Int), .slice A1 p.csrc.length c1, .int .u16 (p.prof : Int), .slice A2 p.ext.length c2, .slice A3 p.pay.length c3] 28)).heap.size = w.heap.size + 1 := by simp
    have bx := (Below.refl _ w).alloc (Nat.le_refl _) (.cells #[.bool p.m, .int .i64 p.ty, .int .u16 (p.seq : Int), .int .u32 (p.time : Int), .int .u32 (p.ssrc : Int), .slice A1 p.csrc.length c1, .int .u16 (p.prof : Int), .slice A2 p.ext.length c2, .slice A3 p.pay.length c3] 28)
    have hB := (Blk.new w 28 #[.bool p.m, .int .i64 p.ty, .int .u16 (p.seq : Int), .int .u32 (p.time : Int), .int .u32 (p.ssrc : Int), .slice A1 p.csrc.length c1, .int .u16 (p.prof : Int), .slice A2 p.ext.length c2, .slice A3 p.pay.length c3]).alloc (.cells #[.bool false, .int .i64 0, .int .u16 0, .int .u32 0, .int .u32 0, .slice none 0 0, .int .u16 0, .slice none 0 0, .slice none 0 0] 28)
    have hZ := Blk.new (w.alloc (.cells #[.bool p.m, .int .i64 p.ty, .int .u16 (p.seq : Int), .int .u32 (p.time : Int), .int .u32 (p.ssrc : Int), .slice A1 p.csrc.length c1, .int .u16 (p.prof : Int), .slice A2 p.ext.length c2, .slice A3 p.pay.length c3] 28)) 28 #[.bool false, .int .i64 0, .int .u16 0, .int .u32 0, .int .u32 0, .slice none 0 0, .int .u16 0, .slice none 0 0, .slice none 0 0]
    rw [s2] at hZ
    have b1 := bx.alloc bx.size (.cells #[.bool false, .int .i64 0, .int .u16 0, .int .u32 0, .int .u32 0, .slice none 0 0, .int .u16 0, .slice none 0 0, .slice none 0 0] 28)
    clear bx s2
    generalize (w.alloc (.cells #[.bool p.m, .int .i64 p.ty, .int .u16 (p.seq : Int), .int .u32 (p.time : Int), .int .u32 (p.ssrc : Int), .slice A1 p.csrc.length c1, .int .u16 (p.prof : Int), .slice A2 p.ext.length c2, .slice A3 p.pay.length c3] 28)).alloc (.cells #[.bool false, .int .i64 0, .int .u16 0, .int .u32 0, .int .u32 0, .slice none 0 0, .int .u16 0, .slice none 0 0, .slice none 0 0] 28) = V at hB hZ b1 ⊢
    have hBl := hB.lt
    have hZl := hZ.lt
    have rp := (hp.on b1).ext.alloc (Nat.le_refl _) (.cells #[] 5)
    have oe := Own8.empty V V.heap.size (Nat.le_refl _)
    have hbb : ([] : List UInt8).length + p.ext.length ≤ 140737488355328 := by simp; omega
    have hbb2 : ([] ++ p.ext : List UInt8).length + 1 ≤ 140737488355328 := by simp; omega
    obtain ⟨k0, k1, k2, k3, k4, k5, k6, k7, k8⟩ := blk9 hB
    go_upto_region 13 with (first
      | (at_builtin; (with_reducible refine wpList_append8 rfl (.tmp 23) (.tmp 25) rfl rfl V.heap.size (.slice (some ⟨V.heap.size, 0, none⟩) 0 0) [] (by with_unfolding_all rfl) oe V.heap.size A2 _ c2 p.ext (by with_unfolding_all rfl) rp hbb (by simp) ?_); intro v7 w7 ha7; have o7 : Own8 w7 V.heap.size v7 ([] ++ p.ext) := ha7.1; have z7 : V.heap.size ≤ w7.heap.size := Nat.le_trans (by simp) ha7.2.1.size; have o7a := o7.alloc (.cells #[.int .u8 1] 5))
      | (at_builtin; (with_reducible refine wpList_append8 rfl (.tmp 26) (.tmp 27) rfl rfl V.heap.size v7 ([] ++ p.ext) (by with_unfolding_all rfl) o7a (w7.heap.size + 1) _ 1 1 [1] (by with_unfolding_all rfl) (by with_unfolding_all exact one_r8 w7 1 1 rfl) hbb2 (le_alloc z7 _) ?_); intro v8 w8 ha8; have be7 := ha7.below ((Below.refl V.heap.size V).alloc (Nat.le_refl _) _) (by simp) oe (Nat.le_refl _); have be8 := ha8.below (be7.alloc z7 _) (le_alloc z7 _) o7a (Nat.le_refl _); have hB8 := hB.below be8 hBl; have y8 : w8.cell? ⟨w.heap.size, 7, none⟩ = some (.slice A2 p.ext.length c2) := hB8.cell 7; have x8 := hB8.frozen 7; obtain ⟨A8, c8, rfl, r8⟩ := ha8.1.r8))
    have e8 : ([] ++ p.ext ++ [1] : List UInt8).length = p.ext.length + 1 := by simp
    rw [e8] at r8
    try rw [e8]
    have hB9 := hB8.set_ 7 (.slice A8 (p.ext.length + 1) c8)
    simp only [List.setIfInBounds_toArray, List.set_cons_succ, List.set_cons_zero] at hB9
    have hZ8 := hZ.below be8 hZl
    have hZ9 := hZ8.far (p := ⟨w.heap.size, 7, none⟩) (show w.heap.size + 1 ≠ w.heap.size by omega) (.slice A8 (p.ext.length + 1) c8)
    have b9 := Below.setCell (b1.trans (be8.mono b1.size)) (p := ⟨w.heap.size, 7, none⟩) (Nat.le_refl _) (.slice A8 (p.ext.length + 1) c8)
    have r9 := r8.setNot y8 (by simp) (.slice A8 (p.ext.length + 1) c8)
    have hs9 := size_setCell w8 ⟨w.heap.size, 7, none⟩ (.slice A8 (p.ext.length + 1) c8)
    rw [← hs9] at r9
    clear k0 k1 k2 k3 k4 k5 k6 k7 k8 hB hZ rp oe hbb hbb2 ha7 ha8 o7 o7a z7 be7 be8 hB8 y8 x8 r8 e8 hZ8 hs9 b1 hBl hZl
    generalize w8.setCell ⟨w.heap.size, 7, none⟩ (.slice A8 (p.ext.length + 1) c8) = V9 at hB9 hZ9 b9 r9 ⊢
    obtain ⟨m0, m1, m2, m3, m4, m5, m6, m7, m8⟩ := blk9 hB9
    obtain ⟨k0, k1, k2, k3, k4, k5, k6, k7, k8⟩ := blk9 hZ9
    have z0 := hZ9.frozen 0
    have z1 := hZ9.frozen 1
    have z2 := hZ9.frozen 2
    have z3 := hZ9.frozen 3
    have z4 := hZ9.frozen 4
    have z5 := hZ9.frozen 5
    have z6 := hZ9.frozen 6
    have z7 := hZ9.frozen 7
    have z8 := hZ9.frozen 8
    go_wp2_with fail
    have hF := set9_blk (v0 := .bool p.m) (v1 := .int .i64 p.ty) (v2 := .int .u16 (p.seq : Int)) (v3 := .int .u32 (p.time : Int)) (v4 := .int .u32 (p.ssrc : Int)) (v5 := .slice A1 p.csrc.length c1) (v6 := .int .u16 (p.prof : Int)) (v7 := .slice A8 (p.ext.length + 1) c8) (v8 := .slice A3 p.pay.length c3) hZ9
    have hG := b9.trans (set9_below (W := V9) (R := w.heap.size + 1) (B := w.heap.size) (v0 := .bool p.m) (v1 := .int .i64 p.ty) (v2 := .int .u16 (p.seq : Int)) (v3 := .int .u32 (p.time : Int)) (v4 := .int .u32 (p.ssrc : Int)) (v5 := .slice A1 p.csrc.length c1) (v6 := .int .u16 (p.prof : Int)) (v7 := .slice A8 (p.ext.length + 1) c8) (v8 := .slice A3 p.pay.length c3) (Nat.le_succ _))
    change bodyPost _ _ _ _ _ (set9 V9 (w.heap.size + 1) (.bool p.m) (.int .i64 p.ty) (.int .u16 (p.seq : Int)) (.int .u32 (p.time : Int)) (.int .u32 (p.ssrc : Int)) (.slice A1 p.csrc.length c1) (.int .u16 (p.prof : Int)) (.slice A8 (p.ext.length + 1) c8) (.slice A3 p.pay.length c3))
    have hkeep : ∀ q : Addr, q.block ≠ w.heap.size + 1 → (set9 V9 (w.heap.size + 1) (.bool p.m) (.int .i64 p.ty) (.int .u16 (p.seq : Int)) (.int .u32 (p.time : Int)) (.int .u32 (p.ssrc : Int)) (.slice A1 p.csrc.length c1) (.int .u16 (p.prof : Int)) (.slice A8 (p.ext.length + 1) c8) (.slice A3 p.pay.length c3)).cell? q = V9.cell? q := fun q hq => World.cell?_of_block (set9_far (W := V9) (R := w.heap.size + 1) q.block hq)
    have q3 := r9.far hZ9 hkeep (set9_size _ _)
    generalize set9 V9 (w.heap.size + 1) (.bool p.m) (.int .i64 p.ty) (.int .u16 (p.seq : Int)) (.int .u32 (p.time : Int)) (.int .u32 (p.ssrc : Int)) (.slice A1 p.csrc.length c1) (.int .u16 (p.prof : Int)) (.slice A8 (p.ext.length + 1) c8) (.slice A3 p.pay.length c3) = WF at hF hG q3 ⊢
    clear hkeep k0 k1 k2 k3 k4 k5 k6 k7 k8
    obtain ⟨k0, k1, k2, k3, k4, k5, k6, k7, k8⟩ := blk9 hF
    refine bodyPost_ret (by simp [results, Try.results13, go_sem, k0, k1, k2, k3, k4, k5, k6, k7, k8]; try rfl) rfl ?_
    have hpo := hp.on hG
    refine ⟨{ p with ext := p.ext ++ [1] }, A1, c1, A8, c8, A3, c3, ?_, ⟨hpo.csrc, ?_, hpo.pay, ?_⟩, hG, by simp⟩
    · simp [Pkt.val]
    · simpa using q3
    · exact { hk with ext := by simp; omega }
  · clear hm1 hm2 he1 he2
    obtain ⟨X, hX9, hX⟩ : ∃ X : Nat, X < 65536 ∧ IntKind.u16.wrap n = (X : Int) := ⟨(n % 65536).toNat, by omega, by show n % 65536 = _; omega⟩
    go_wp2_with fail
    refine bodyPost_ret (by simp [results, Try.results13, go_sem]; try rfl) rfl ?_
    exact ⟨{ p with prof := X }, A1, c1, A2, c2, A3, c3, rfl, ⟨hp.csrc.on (by go_grown), hp.ext.on (by go_grown), hp.pay.on (by go_grown), { hk with prof := hX9 }⟩, by go_grown, by simp⟩
  · clear hm1 he1
    go_wp2_with fail
    refine bodyPost_ret (by simp [results, Try.results13, go_sem]; try rfl) rfl ?_
    refine ⟨{ p with pay := List.replicate k2 0 }, A1, c1, A2, c2, some ⟨w.heap.size + 1 + 1, 0, none⟩, k2, ?_, ⟨hp.csrc.on (by go_grown), hp.ext.on (by go_grown), ?_, ?_⟩, by go_grown, by simp⟩
    · simp [Pkt.val]
    · simp only [List.length_replicate]
      exact new8_at _ _ _ (by simp)
    · exact { hk with pay := by simp; omega }
  · clear hm1 hm2 he1 he2
    go_wp2_with fail
    refine bodyPost_ret (by simp [results, Try.results13, go_sem]; try rfl) rfl ?_
    exact ⟨{ p with prof := 0, ext := [] }, A1, c1, none, 0, A3, c3, rfl, ⟨hp.csrc.on (by go_grown), R8.nil _ _ _ _, hp.pay.on (by go_grown), { hk with prof := by simp, ext := by simp }⟩, by go_grown, by simp⟩
end Go.Proofs.Ytpcdmcaojgpfoaa
