/- From a row's reading of an api.Rtp to the plain words of Pkt. What the walk of limelightlaw3.RtpTells takes: one byte ahead of a row that came in; a packet's block that is written in one place; a packet that a call answers. The walk of layer 3's law RtpTells. -/
import Derived.Test.YtpcdmcaojgpfoaaOpenI
import Derived.Test.YtpcdmcaojgpfoaaPkt
import Derived.Test.YtpcdmcaojgpfoaaLwSame
import Derived.Test.YtpcdmcaojgpfoaaLwOdd
import Derived.Test.YtpcdmcaojgpfoaaLwKnown
import Derived.Test.YtpcdmcaojgpfoaaCTapeP
import Derived.Test.YtpcdmcaojgpfoaaRegP
import Derived.ArgAppend
import Derived.Laws.Closers25b
import Derived.Deep.CutRange
namespace Go.Proofs.Ytpcdmcaojgpfoaa
open Go.ChangeShapes Go.WideShapes Go.ChangeAt Go.RowKit
set_option linter.unusedVariables false
set_option linter.unusedSimpArgs false
set_option maxRecDepth 20000

section
variable {H : Type} {enc : TypeId × Value → H} {W : World}
theorem cell_octets {fuel : Nat} {v : Value} {y : DataW H × List MemPlace} (h : DataW.trod enc Try.prog W 0 (fun _ => true) true fuel 26 [v] = some y) :
    ∃ A n c l, v = .slice A n c ∧ R8 W W.heap.size A n c l ∧ ∀ K, (∀ elems spare, y.1 = .slice elems spare → elems.length + spare.length ≤ K) → n ≤ K := by
  obtain ⟨d, p⟩ := y
  have hv : ∃ A n c, v = .slice A n c := by
    rcases open_ints Try.underlying26 Try.underlying5 (by kernel_rfl) h with ⟨e, _⟩ | ⟨x, l, c, zs, e, _⟩
    · exact ⟨none, 0, 0, by simpa using e⟩
    · exact ⟨some x, l, c, by simpa using e⟩
  obtain ⟨A, n, c, rfl⟩ := hv
  obtain ⟨l, h1, h2⟩ := open_bytes Try.underlying26 Try.underlying5 (by kernel_rfl) (show DataW.trod enc Try.prog W 0 (fun _ => true) true fuel 26 (Value.slice A n c).cells.toList = some (d, p) from h)
  exact ⟨A, n, c, l, rfl, h1, h2⟩
theorem u32_of_wf {n : Int} (h : (Lit.int .u32 n).wf = true) : 0 ≤ n ∧ n < 4294967296 := by
  have : 0 ≤ n ∧ n ≤ 4294967295 := by simpa [Lit.wf, IntKind.min, IntKind.max, IntKind.signed, IntKind.bits] using h
  omega
theorem u16_of_wf {n : Int} (h : (Lit.int .u16 n).wf = true) : 0 ≤ n ∧ n < 65536 := by
  have : 0 ≤ n ∧ n ≤ 65535 := by simpa [Lit.wf, IntKind.min, IntKind.max, IntKind.signed, IntKind.bits] using h
  omega
theorem cell_words {fuel : Nat} {v : Value} {y : DataW H × List MemPlace} (h : DataW.trod enc Try.prog W 0 (fun _ => true) true fuel 25 [v] = some y) :
    ∃ A n c l, v = .slice A n c ∧ R32 W W.heap.size A n c l ∧ ∀ K, (∀ elems spare, y.1 = .slice elems spare → elems.length + spare.length ≤ K) → n ≤ K := by
  rcases open_ints Try.underlying25 Try.underlying24 (by kernel_rfl) h with ⟨e, _⟩ | ⟨x, n, c, zs, e, _, hl, hm, hz, hx, hcell, hwz⟩
  · exact ⟨none, 0, 0, [], by simpa using e, R32.nil _ _ _ _, fun K _ => Nat.zero_le _⟩
  · simp at hz
    refine ⟨some x, n, c, (zs.take n).map Int.toNat, by simpa using e, ⟨by simp; omega, hl, fun k hk => ?_, fun hn => ?_⟩, fun K hK => by
      have := hK _ _ (congrArg Prod.fst hx)
      simp only [lits, List.length_map, List.length_take, List.length_drop] at this
      omega⟩
    · obtain ⟨z, hz', rfl⟩ := List.mem_map.1 hk
      have := u32_of_wf (hwz z (List.mem_of_mem_take hz'))
      omega
    have h0 := hcell 0 (by omega)
    obtain ⟨b, off, spot⟩ := x
    have hsp : spot = none := by simpa [Addr.add] using World.cell?_spot h0
    subst hsp
    refine ⟨b, off, rfl, by simpa [Addr.add] using World.block_lt_of_cell? W _ h0, fun i hi => ?_⟩
    have e1 : (⟨b, off, none⟩ : Addr).add i = ⟨b, off + i, none⟩ := by unfold Addr.add; split <;> simp_all
    have hi' : i < zs.length := by omega
    rw [← e1, hcell i hi']
    have hb := u32_of_wf (hwz zs[i] (List.getElem_mem hi'))
    simp only [List.getD, List.getElem?_map, List.getElem?_take, hi, if_true, List.getElem?_eq_getElem hi', Option.map_some, Option.getD_some]
    rw [Int.toNat_of_nonneg hb.1]
theorem rtp_cells : Try.prog.cellsOf 28 = 9 := by kernel_rfl
/-- A packet that came in by value. -/
theorem open_rtp {r : Reach} {b0 : Nat} {v : Value} {d : DataW H} {p : List MemPlace} (hv : Value.okWide Try.prog W r b0 28 v) (h : DataW.Trod enc Try.prog W 0 (fun _ => true) true 28 v d p) (hw : (d.weights Try.prog 28).all (· ≤ reachBytes) = true) :
    ∃ (q : Pkt) (B1 : Option Addr) (d1 : Nat) (B2 : Option Addr) (d2 : Nat) (B3 : Option Addr) (d3 : Nat), v = q.val B1 d1 B2 d2 B3 d3 ∧ IsP W W.heap.size B1 d1 B2 d2 B3 d3 q := by
  obtain ⟨cs, rfl, hsz⟩ := okWide_struct Try.underlying28 hv
  rw [rtp_cells] at hsz
  obtain ⟨fuel, hf⟩ := h
  obtain ⟨xs, n, _, hx, _, hxs, hg⟩ := DataW.trod_struct Try.underlying28 hf
  obtain ⟨l⟩ := cs
  match l, hsz with
  | [v0, v1, v2, v3, v4, v5, v6, v7, v8], _ =>
    match xs, hxs with
    | [y0, y1, y2, y3, y4, y5, y6, y7, y8], _ =>
      have t0 : DataW.trod enc Try.prog W 0 (fun _ => true) true n 4 [v0] = some y0 := hg 0 _ rfl
      have t1 : DataW.trod enc Try.prog W 0 (fun _ => true) true n 3 [v1] = some y1 := hg 1 _ rfl
      have t2 : DataW.trod enc Try.prog W 0 (fun _ => true) true n 23 [v2] = some y2 := hg 2 _ rfl
      have t3 : DataW.trod enc Try.prog W 0 (fun _ => true) true n 24 [v3] = some y3 := hg 3 _ rfl
      have t4 : DataW.trod enc Try.prog W 0 (fun _ => true) true n 24 [v4] = some y4 := hg 4 _ rfl
      have t5 : DataW.trod enc Try.prog W 0 (fun _ => true) true n 25 [v5] = some y5 := hg 5 _ rfl
      have t6 : DataW.trod enc Try.prog W 0 (fun _ => true) true n 23 [v6] = some y6 := hg 6 _ rfl
      have t7 : DataW.trod enc Try.prog W 0 (fun _ => true) true n 26 [v7] = some y7 := hg 7 _ rfl
      have t8 : DataW.trod enc Try.prog W 0 (fun _ => true) true n 26 [v8] = some y8 := hg 8 _ rfl
      obtain ⟨m, e0, _⟩ := DataW.trod_bool Try.underlying4 t0
      obtain ⟨z1, e1, _, w1⟩ := DataW.trod_int Try.underlying3 t1
      obtain ⟨z2, e2, _, w2⟩ := DataW.trod_int Try.underlying23 t2
      obtain ⟨z3, e3, _, w3⟩ := DataW.trod_int Try.underlying24 t3
      obtain ⟨z4, e4, _, w4⟩ := DataW.trod_int Try.underlying24 t4
      obtain ⟨z6, e6, _, w6⟩ := DataW.trod_int Try.underlying23 t6
      obtain ⟨A5, n5, c5, l5, rfl, r5, b5⟩ := cell_words t5
      obtain ⟨A7, n7, c7, l7, rfl, r7, b7⟩ := cell_octets t7
      obtain ⟨A8, n8, c8, l8, rfl, r8, b8⟩ := cell_octets t8
      have hv0 : v0 = .bool m := by simpa using e0
      have hv1 : v1 = .int .i64 z1 := by simpa using e1
      have hv2 : v2 = .int .u16 z2 := by simpa using e2
      have hv3 : v3 = .int .u32 z3 := by simpa using e3
      have hv4 : v4 = .int .u32 z4 := by simpa using e4
      have hv6 : v6 = .int .u16 z6 := by simpa using e6
      subst hv0 hv1 hv2 hv3 hv4 hv6
      have g2 := u16_of_wf w2
      have g3 := u32_of_wf w3
      have g4 := u32_of_wf w4
      have g6 := u16_of_wf w6
      have hd : d = .agg [y0.1, y1.1, y2.1, y3.1, y4.1, y5.1, y6.1, y7.1, y8.1] := by
        have := congrArg Prod.fst hx
        simpa using this
      subst hd
      have hwe : (DataW.weightsEach Try.prog [4, 3, 23, 24, 24, 25, 23, 26, 26] [y0.1, y1.1, y2.1, y3.1, y4.1, y5.1, y6.1, y7.1, y8.1]).all (· ≤ reachBytes) = true := by
        have h1 := hw
        simp only [DataW.weights, Try.underlying28] at h1
        exact h1
      have k5 : n5 ≤ 140737488355328 := b5 _ fun elems spare he => by
        have h1 := sized_slice hwe (j := 5) rfl (congrArg some he) Try.underlying25
        rw [show Try.prog.bytesOf 24 = 4 by kernel_rfl] at h1
        simp only [reachBytes] at h1
        omega
      have k7 : n7 ≤ 140737488355328 := b7 _ fun elems spare he => by
        have h1 := sized_slice hwe (j := 7) rfl (congrArg some he) Try.underlying26
        rw [show Try.prog.bytesOf 5 = 1 by kernel_rfl] at h1
        simp only [reachBytes] at h1
        omega
      have k8 : n8 ≤ 140737488355328 := b8 _ fun elems spare he => by
        have h1 := sized_slice hwe (j := 8) rfl (congrArg some he) Try.underlying26
        rw [show Try.prog.bytesOf 5 = 1 by kernel_rfl] at h1
        simp only [reachBytes] at h1
        omega
      have q5 := r5.1
      have q7 := r7.1
      have q8 := r8.1
      subst q5 q7 q8
      refine ⟨⟨m, z1, z2.toNat, z3.toNat, z4.toNat, l5, z6.toNat, l7, l8⟩, A5, c5, A7, c7, A8, c8, ?_, r5, r7, r8, ⟨I64.of_wf w1, by simp only; omega, by simp only; omega, by simp only; omega, by simp only; omega, k5, k7, k8⟩⟩
      simp only [Pkt.val]
      rw [Int.toNat_of_nonneg g2.1, Int.toNat_of_nonneg g3.1, Int.toNat_of_nonneg g4.1, Int.toNat_of_nonneg g6.1]
theorem weights_at {ts : List TypeId} {ds : List (DataW H)} (hsz : (DataW.weightsEach Try.prog ts ds).all (· ≤ reachBytes) = true) (j : Nat) {t : TypeId} {d : DataW H} (ht : ts[j]? = some t) (hd : ds[j]? = some d) : (d.weights Try.prog t).all (· ≤ reachBytes) = true :=
  List.all_eq_true.2 fun n hn => List.all_eq_true.1 hsz n (DataW.weights_mem_each ht hd n hn)
end
end Go.Proofs.Ytpcdmcaojgpfoaa
namespace Go.Proofs.Ytpcdmcaojgpfoaa.RP
open Go.RowKit
set_option linter.unusedVariables false
set_option linter.unusedSimpArgs false
set_option maxRecDepth 20000

/-- append([]byte{y}, b...): the first row has no room, so that nothing that was there turns. -/
theorem run_ahead (w : World) (g : Nat) (y : UInt8) (A : Option Addr) (n c : Nat) (l : List UInt8) (k0 : w.cell? ⟨g, 0, none⟩ = some (.int .u8 (y.toNat : Int))) (hg : g < w.heap.size) (hr : R8 w w.heap.size A n c l) (hn : n ≤ 140737488351232) (ty : TypeId) :
    ∃ v' w' A' n' c', (Builtin.append_ #[26, 26] ty #[.slice (some ⟨g, 0, none⟩) 1 1, .slice A n c]).run Try.prog w = .ok v' w' ∧ Below w.heap.size w w' ∧ v' = .slice A' n' c' ∧ R8 w' w'.heap.size A' n' c' (y :: l) := by
  obtain ⟨i0, hi0, hz0, hz1, hz2⟩ := info_parts u8_info
  have hl := hr.1
  rcases Nat.eq_zero_or_pos n with h0 | h0
  · subst h0
    have hl0 : l = [] := List.eq_nil_of_length_eq_zero hl
    subst hl0
    refine ⟨.slice (some ⟨g, 0, none⟩) 1 1, w, some ⟨g, 0, none⟩, 1, 1, ?_, Below.refl _ _, rfl, rfl, Nat.le_refl _, fun _ => ⟨g, 0, rfl, hg, fun i hi => ?_⟩⟩
    · cases A with
      | none => simp [Builtin.append_, run_underlying Try.underlying26, run_underlying Try.underlying5, sizeOf, typeInfo, hi0, Builtin.lenOf, Builtin.firstCells, storeCells]
      | some ad =>
        have hf := run_firstCells_some (P := Try.prog) w i0.size 0 ad 0 c [] (by simp) (by simp)
        simp [Builtin.append_, run_underlying Try.underlying26, run_underlying Try.underlying5, sizeOf, typeInfo, hi0, Builtin.lenOf, hf, storeCells]
    · obtain rfl : i = 0 := by omega
      rw [k0]
      rfl
  · obtain ⟨ad, rfl, hsrc⟩ := hr.src (by simpa [hl] using h0)
    have holds : ∀ j u, [bv y][j]? = some u → w.cell? ((⟨g, 0, none⟩ : Addr).add j) = some u := by
      intro j u hj
      match j, hj with
      | 0, hj =>
        simp at hj
        subst hj
        simpa [Addr.add, bv] using k0
    obtain ⟨v', w', hrun, hown, hgr⟩ := run_append_arg_grows (P := Try.prog) w 26 ty 5 i0 _ 1 1 Try.underlying26 hi0 hz0 hz1 hz2 rfl (by omega) ⟨g, 0, none⟩ 1 1 [bv y] rfl holds ad n c (l.map bv) (by simp [hl]) hsrc (by omega) (by simp only [maxLen]; omega) (by omega)
    have ho : Own8 w' w.heap.size v' (y :: l) := by
      unfold Own8
      rw [List.length_cons, hl, Nat.add_comm n 1]
      exact hown
    obtain ⟨A', c', hv, hR⟩ := ho.r8
    exact ⟨v', w', A', _, c', hrun, ⟨hgr.os, hgr.tape, hgr.output, hgr.size, fun k hk => hgr.block k hk (by simp)⟩, hv, hR⟩
theorem run_cut_to (w : World) (A : Option Addr) (n c k : Nat) (hk : k ≤ c) :
    (Instr.slice 26 (.slice A n c) none (some (.int .i64 (k : Int))) none).run Try.prog w = .ok (.slice A k c) w := by
  have e : (if c = 0 then A else A.map (·.add 0)) = A := by
    split
    · rfl
    · cases A with
      | none => rfl
      | some a => simp [Addr.add]
  have hs : (Try.prog.elem 26) = 5 := by simp [Program.elem, Try.underlying26]
  have h3 := run_slice_h (P := Try.prog) w 26 A n c (by rw [hs]; exact Try.underlying26) .i64 (k : Nat) (by omega) (by omega)
  rw [hs] at h3
  obtain ⟨i0, hi0, hz0, hz1, hz2⟩ := info_parts u8_info
  rw [h3]
  simp [sizeOf, typeInfo, hi0, hz1, sliced, Result.andThen, e]
theorem xor8 (a b : Int) : ∃ y : UInt8, bits BinOp.xor .u8 a b = (y.toNat : Int) := by
  have h0 := bits_lo_u8 BinOp.xor a b
  have h1 := bits_hi_u8 BinOp.xor a b
  exact ⟨UInt8.ofNat (bits BinOp.xor .u8 a b).toNat, by rw [UInt8.toNat_ofNat']; omega⟩
theorem or8 (a b : Int) : ∃ y : UInt8, bits BinOp.or .u8 a b = (y.toNat : Int) := by
  have h0 := bits_lo_u8 BinOp.or a b
  have h1 := bits_hi_u8 BinOp.or a b
  exact ⟨UInt8.ofNat (bits BinOp.or .u8 a b).toNat, by rw [UInt8.toNat_ofNat']; omega⟩
theorem i64_bits (op : BinOp) (a b : Int) : I64 (bits op .i64 a b) := ⟨bits_lo_i64 op a b, bits_hi_i64 op a b⟩
theorem ri_more {w : World} {B B' n c : Nat} {A : Option Addr} (h : RI w B A n c) (hB : B ≤ B') : RI w B' A n c :=
  ⟨h.1, fun hn => by
    obtain ⟨b, off, e, hb, hc⟩ := h.2 hn
    exact ⟨b, off, e, by omega, hc⟩⟩
theorem tape_made {w : World} {A : Option Addr} {n c : Nat} (h : RI w w.heap.size A n c) (hn : n ≤ 281474976710656) : TapeAt (w.alloc (.cells #[.slice A n c, .int .i64 0] 31)) w.heap.size :=
  ⟨A, n, c, 0, Blk.new _ _ _, Nat.zero_le _, hn, h.keep ((Below.refl _ w).alloc (Nat.le_refl _) _)⟩
/-- No cell of a packet's block holds a byte. -/
theorem nine_no8 {w : World} {R : Nat} {m : Bool} {ty a2 a3 a4 a6 : Int} {A1 A2 A3 : Option Addr} {n1 c1 n2 c2 n3 c3 : Nat} (h : Blk w R 28 #[.bool m, .int .i64 ty, .int .u16 a2, .int .u32 a3, .int .u32 a4, .slice A1 n1 c1, .int .u16 a6, .slice A2 n2 c2, .slice A3 n3 c3]) {o : Nat} {x : Int} :
    w.cell? ⟨R, o, none⟩ ≠ some (.int .u8 x) := by
  rw [h.cell o]
  match o with
  | 0 => simp
  | 1 => simp
  | 2 => simp
  | 3 => simp
  | 4 => simp
  | 5 => simp
  | 6 => simp
  | 7 => simp
  | 8 => simp
  | o + 9 => simp
/-- Bytes stay where another block is written. -/
theorem R8.far {w : World} {n c R : Nat} {A : Option Addr} {l : List UInt8} (h : R8 w w.heap.size A n c l) (hno : ∀ o x, w.cell? ⟨R, o, none⟩ ≠ some (.int .u8 x)) (i : Nat) (u : Value) : R8 (w.setCell ⟨R, i, none⟩ u) (w.setCell ⟨R, i, none⟩ u).heap.size A n c l :=
  ⟨h.1, h.2.1, fun hn => by
    obtain ⟨b, off, e, hlt, hc⟩ := h.2.2 hn
    have hs : w.heap.size ≤ (w.setCell ⟨R, i, none⟩ u).heap.size := ((Below.refl 0 w).setCell (p := ⟨R, i, none⟩) (Nat.zero_le _) u).size
    have hne : b ≠ R := fun e' => by
      subst e'
      exact hno _ _ (hc 0 hn)
    refine ⟨b, off, e, by omega, fun j hj => ?_⟩
    rw [← hc j hj]
    exact World.cell?_of_block (Below.heap_setCell _ _ _ b hne)⟩
theorem R32.far {w : World} {n c R : Nat} {A : Option Addr} {l : List Nat} (h : R32 w w.heap.size A n c l) (hno : ∀ ad, A = some ad → ad.block ≠ R) (i : Nat) (u : Value) : R32 (w.setCell ⟨R, i, none⟩ u) (w.setCell ⟨R, i, none⟩ u).heap.size A n c l :=
  ⟨h.1, h.2.1, h.2.2.1, fun hn => by
    obtain ⟨b, off, e, hlt, hc⟩ := h.2.2.2 hn
    have hs : w.heap.size ≤ (w.setCell ⟨R, i, none⟩ u).heap.size := ((Below.refl 0 w).setCell (p := ⟨R, i, none⟩) (Nat.zero_le _) u).size
    have hne : b ≠ R := hno _ e
    refine ⟨b, off, e, by omega, fun j hj => ?_⟩
    rw [← hc j hj]
    exact World.cell?_of_block (Below.heap_setCell _ _ _ b hne)⟩
/-- A packet by value, its extension no longer than k. -/
def pktC (k : Nat) : Cl := .pred (fun v W => ∃ (r : Pkt) (C1 : Option Addr) (e1 : Nat) (C2 : Option Addr) (e2 : Nat) (C3 : Option Addr) (e3 : Nat), v = r.val C1 e1 C2 e2 C3 e3 ∧ IsP W W.heap.size C1 e1 C2 e2 C3 e3 r ∧ r.ext.length ≤ k)
  (fun v w w' hb ⟨r, C1, e1, C2, e2, C3, e3, h1, h2, h3⟩ => ⟨r, C1, e1, C2, e2, C3, e3, h1, h2.on hb, h3⟩)
theorem pktC_of {k : Nat} {c : Cl} {v : Value} {W : World} (h : c.holds v W) (e : c = pktC k) : ∃ (r : Pkt) (C1 : Option Addr) (e1 : Nat) (C2 : Option Addr) (e2 : Nat) (C3 : Option Addr) (e3 : Nat), v = r.val C1 e1 C2 e2 C3 e3 ∧ IsP W W.heap.size C1 e1 C2 e2 C3 e3 r ∧ r.ext.length ≤ k := by
  subst e
  exact h
theorem pktC70_of {c : Cl} {v : Value} {W : World} (h : c.holds v W) (e : c = pktC 70) : ∃ (r : Pkt) (C1 : Option Addr) (e1 : Nat) (C2 : Option Addr) (e2 : Nat) (C3 : Option Addr) (e3 : Nat), v = r.val C1 e1 C2 e2 C3 e3 ∧ IsP W W.heap.size C1 e1 C2 e2 C3 e3 r ∧ r.ext.length ≤ 70 := pktC_of h e
theorem pktC72_of {c : Cl} {v : Value} {W : World} (h : c.holds v W) (e : c = pktC 72) : ∃ (r : Pkt) (C1 : Option Addr) (e1 : Nat) (C2 : Option Addr) (e2 : Nat) (C3 : Option Addr) (e3 : Nat), v = r.val C1 e1 C2 e2 C3 e3 ∧ IsP W W.heap.size C1 e1 C2 e2 C3 e3 r ∧ r.ext.length ≤ 72 := pktC_of h e
def PktRet (k : Nat) (w : World) (e : Ending) (w' : World) : Prop := ∃ v, e = .returned v ∧ Below w.heap.size w w' ∧ (pktC k).holds v w'
theorem pktC_ret {k : Nat} {c : Cl} {w w' : World} {e : Ending} (hc : c = pktC k) (h : PktRet k w e w') : ∃ v, e = .returned v ∧ Below w.heap.size w w' ∧ c.holds v w' := by
  subst hc
  exact h
theorem odd_c (k : Nat) (p : Pkt) (A1 : Option Addr) (c1 : Nat) (A2 : Option Addr) (c2 : Nat) (A3 : Option Addr) (c3 : Nat) (what n : Int) (w : World) (hp : IsP w w.heap.size A1 c1 A2 c2 A3 c3 p) (hw : I64 what) (hn : I64 n) (hk : p.ext.length + 1 ≤ k) (hk9 : k ≤ 1000) :
    Calls Try.prog 13 #[p.val A1 c1 A2 c2 A3 c3, .int .i64 what, .int .i64 n] w (PktRet k w) :=
  (law_odd p A1 c1 A2 c2 A3 c3 what n w hp hw hn (by omega)).mono fun e w' ⟨r, C1, e1, C2, e2, C3, e3, h1, h2, h3, h4⟩ => ⟨_, h1, h3, r, C1, e1, C2, e2, C3, e3, rfl, h2, by omega⟩
/-- One byte in a block, as []byte{y}. -/
def oneC (y : UInt8) : Cl := .pred (fun v W => ∃ g, v = .slice (some ⟨g, 0, none⟩) 1 1 ∧ g < W.heap.size ∧ W.cell? ⟨g, 0, none⟩ = some (.int .u8 (y.toNat : Int)))
  (fun v w w' hb ⟨g, h1, h2, h3⟩ => ⟨g, h1, Nat.lt_of_lt_of_le h2 hb.size, (hb.cell (p := ⟨g, 0, none⟩) h2).trans h3⟩)
theorem oneC_of {y : UInt8} {c : Cl} {v : Value} {W : World} (h : c.holds v W) (e : c = oneC y) : ∃ g, v = .slice (some ⟨g, 0, none⟩) 1 1 ∧ g < W.heap.size ∧ W.cell? ⟨g, 0, none⟩ = some (.int .u8 (y.toNat : Int)) := by
  subst e
  exact h
theorem oneC_mk {y : UInt8} {c : Cl} {v : Value} {W : World} (e : c = oneC y) (h : ∃ g, v = .slice (some ⟨g, 0, none⟩) 1 1 ∧ g < W.heap.size ∧ W.cell? ⟨g, 0, none⟩ = some (.int .u8 (y.toNat : Int))) : c.holds v W := by
  subst e
  exact h
def octC (l : List UInt8) : Cl := .bytes l
theorem octC_of {l : List UInt8} {c : Cl} {v : Value} {W : World} (h : c.holds v W) (e : c = octC l) : ∃ A n k, v = .slice A n k ∧ R8 W W.heap.size A n k l := by
  subst e
  exact h
theorem octC_mk {l : List UInt8} {c : Cl} {v : Value} {W : World} (e : c = octC l) (h : ∃ A n k, v = .slice A n k ∧ R8 W W.heap.size A n k l) : c.holds v W := by
  subst e
  exact h
end Go.Proofs.Ytpcdmcaojgpfoaa.RP
namespace Go.Proofs.Ytpcdmcaojgpfoaa.RP
open Go.RowKit
set_option linter.unusedVariables false
set_option linter.unusedSimpArgs false
set_option maxRecDepth 20000

set_option maxRecDepth 100000 in
set_option maxHeartbeats 8000000 in
theorem rtpTells_walk (A0 : Option Addr) (n0 c0 : Nat) (what nn : Int) (q : Pkt) (B1 : Option Addr) (d1 : Nat) (B2 : Option Addr) (d2 : Nat) (B3 : Option Addr) (d3 : Nat) (Ab : Option Addr) (nb cb : Nat) (lb : List UInt8) (at' turn : Int) (z : World)
    (hR : RI z z.heap.size A0 n0 c0) (hn0 : n0 ≤ 281474976710656) (hwhat : I64 what) (hnn : I64 nn) (hq : IsP z z.heap.size B1 d1 B2 d2 B3 d3 q) (hB : R8 z z.heap.size Ab nb cb lb) (hnb : nb ≤ 140737488351232) (hat : I64 at') (htw : (Lit.int .u8 turn).wf = true) :
    Calls Try.prog 3 #[.slice A0 n0 c0, .int .i64 what, .int .i64 nn, q.val B1 d1 B2 d2 B3 d3, .slice Ab nb cb, .int .i64 at', .int .u8 turn] z (Yes z) := by
  simp only [Pkt.val]
  have hQ := Blk.new z 28 #[.bool q.m, .int .i64 q.ty, .int .u16 (q.seq : Int), .int .u32 (q.time : Int), .int .u32 (q.ssrc : Int), .slice B1 q.csrc.length d1, .int .u16 (q.prof : Int), .slice B2 q.ext.length d2, .slice B3 q.pay.length d3]
  have b0 : Below z.heap.size z (z.alloc (.cells #[.bool q.m, .int .i64 q.ty, .int .u16 (q.seq : Int), .int .u32 (q.time : Int), .int .u32 (q.ssrc : Int), .slice B1 q.csrc.length d1, .int .u16 (q.prof : Int), .slice B2 q.ext.length d2, .slice B3 q.pay.length d3] 28)) := (Below.refl _ z).alloc (Nat.le_refl _) _
  go_enter Try.func3, Try.ntmps3
  go_upto_region 1 with (fail)
  revert hQ b0
  generalize z.alloc (.cells #[.bool q.m, .int .i64 q.ty, .int .u16 (q.seq : Int), .int .u32 (q.time : Int), .int .u32 (q.ssrc : Int), .slice B1 q.csrc.length d1, .int .u16 (q.prof : Int), .slice B2 q.ext.length d2, .slice B3 q.pay.length d3] 28) = Z
  intro hQ b0
  have hT := tape_made (ri_more (hR.keep b0) b0.size) hn0
  have bt : Below Z.heap.size Z (Z.alloc (.cells #[.slice A0 n0 c0, .int .i64 0] 31)) := (Below.refl _ Z).alloc (Nat.le_refl _) _
  have hQz := hQ.lt
  go_wp2_with fail
  refine (tape_rtp_new _ _ hT).mono ?_
  rintro e w1 ⟨p, A1, c1, A2, c2, A3, c3, rfl, hI, hr, t1, t2, t3, hm, hfar⟩
  simp only [Pkt.val]
  have bt := bt.trans hm.below
  have b1 := b0.trans (bt.mono b0.size)
  have hQ := hQ.below bt hQz
  have hfarh := Lib.hid (show ∀ ad, A1 = some ad → ad.block ≠ z.heap.size from fun ad e => by have := hfar ad e; simp at this; omega)
  clear hfar
  have ho := Lib.hid (p.ok_of hr)
  have hrh := Lib.hid hr
  have hsz := Lib.hid (show p.size ≤ 200 by unfold Pkt.size; split <;> omega)
  have hb12 := Lib.hid (show p.bytes.length = p.size from p.bytes_len (p.ok_of hr).pe)
  have hs12 := Lib.hid (show 12 ≤ p.size by unfold Pkt.size; omega)
  clear hr t1 t2 hm hT hR b0 bt
  go_upto_region 2 with (fail)
  have hP := Blk.new w1 28 #[.bool p.m, .int .i64 p.ty, .int .u16 (p.seq : Int), .int .u32 (p.time : Int), .int .u32 (p.ssrc : Int), .slice A1 p.csrc.length c1, .int .u16 (p.prof : Int), .slice A2 p.ext.length c2, .slice A3 p.pay.length c3]
  have bz := (Below.refl _ w1).alloc (Nat.le_refl _) (.cells #[.bool p.m, .int .i64 p.ty, .int .u16 (p.seq : Int), .int .u32 (p.time : Int), .int .u32 (p.ssrc : Int), .slice A1 p.csrc.length c1, .int .u16 (p.prof : Int), .slice A2 p.ext.length c2, .slice A3 p.pay.length c3] 28)
  have b2 := b1.trans (bz.mono b1.size)
  have hI := hI.on bz
  have hQlt := hQ.lt
  have hQ := hQ.below bz hQlt
  have hPz : z.heap.size < w1.heap.size := hQlt
  clear bz b1 hQlt hQz
  revert hP b2 hI hQ hPz
  generalize w1.alloc (.cells #[.bool p.m, .int .i64 p.ty, .int .u16 (p.seq : Int), .int .u32 (p.time : Int), .int .u32 (p.ssrc : Int), .slice A1 p.csrc.length c1, .int .u16 (p.prof : Int), .slice A2 p.ext.length c2, .slice A3 p.pay.length c3] 28) = W2
  generalize w1.heap.size = P
  intro hP b2 hI hQ hPz
  obtain ⟨k0, k1, k2, k3, k4, k5, k6, k7, k8⟩ := blk9 hP
  go_wp2_with fail
  refine (show Calls _ _ #[.agg #[.bool p.m, .int .i64 p.ty, .int .u16 (p.seq : Int), .int .u32 (p.time : Int), .int .u32 (p.ssrc : Int), .slice A1 p.csrc.length c1, .int .u16 (p.prof : Int), .slice A2 p.ext.length c2, .slice A3 p.pay.length c3]] _ _ from ref_bytes p A1 c1 A2 c2 A3 c3 W2 hI).mono ?_
  rintro e w3 ⟨hy, _⟩
  obtain ⟨v3, rfl, ho3, bz⟩ := hy hrh.out
  clear hy k0 k1 k2 k3 k4 k5 k6 k7 k8
  obtain ⟨L, hL⟩ : ∃ L, p.bytes.length = L := ⟨_, rfl⟩
  have hL12 : 12 ≤ L := by have := hb12.out; have := hs12.out; omega
  have hL200 : L ≤ 200 := by have := hb12.out; have := hsz.out; omega
  obtain ⟨g3, x3, hv3, hg3, hl3, hfz, hcell⟩ := ho3.some (by omega)
  rw [hL] at hv3 hcell
  subst hv3
  have hLh := Lib.hid hL
  obtain ⟨r, hr0, hr1, _, hrw⟩ := within_ex at' 0 ((L : Int) - 1) hat (by omega) (by omega) (by omega)
  obtain ⟨i, rfl⟩ : ∃ i : Nat, r = i := ⟨r.toNat, by omega⟩
  have hi : i < L := by omega
  have x0 := hcell i hi
  have z0 := hfz i
  obtain ⟨y, hy⟩ := xor8 ((p.bytes.getD i 0).toNat : Int) turn
  have g2 : (i : Int) < (L : Int) := by omega
  have ho4 := ho3.setAt (i := i) (by rw [hL]; exact hi) y
  obtain ⟨Ax, cx, hvx, hx4⟩ := ho4.r8
  injection hvx with hA1 hA2 hA3
  subst hA1 hA3
  clear hA2
  rw [List.length_set, hL] at hx4
  have bz4 : Below W2.heap.size W2 (w3.setCell ⟨g3, i, none⟩ (.int .u8 (y.toNat : Int))) := bz.setCell (p := ⟨g3, i, none⟩) hg3 _
  clear hcell hfz ho3 ho4 bz hL
  generalize (p.bytes.getD i 0).toNat = X at x0 hy
  generalize p.bytes.set i y = lx at hx4
  go_wp2_with fail
  refine (hrw _).mono ?_
  rintro e w' ⟨rfl, hw⟩
  obtain rfl := hw.symm
  have hL1 : (i : Int) ≤ (L : Int) - 1 := by omega
  go_upto_region 4 with (fail)
  clear x0 z0 hrw hy
  revert hx4 bz4
  generalize w3.setCell ⟨g3, i, none⟩ (.int .u8 (y.toNat : Int)) = W4
  intro bz4 hx4
  have hI := hI.on bz4
  have hPl := hP.lt
  have hQl := hQ.lt
  have hP := hP.below bz4 hPl
  have hQ := hQ.below bz4 hQl
  have b4 := b2.trans (bz4.mono b2.size)
  clear bz4 b2 hPl hQl hl3 hg3
  obtain ⟨j0, j1, j2, j3, j4, j5, j6, j7, j8⟩ := blk9 hQ
  have f8 := hQ.frozen 8
  go_upto_if 41 with (fail)
  go_cut [] from 38 to 46 (fun wc => ∃ r : Pkt, Blk wc z.heap.size 28 #[.bool r.m, .int .i64 r.ty, .int .u16 (r.seq : Int), .int .u32 (r.time : Int), .int .u32 (r.ssrc : Int), .slice B1 r.csrc.length d1, .int .u16 (r.prof : Int), .slice B2 r.ext.length d2, .slice B3 r.pay.length d3] ∧ IsP wc wc.heap.size B1 d1 B2 d2 B3 d3 r ∧ Blk wc P 28 #[.bool p.m, .int .i64 p.ty, .int .u16 (p.seq : Int), .int .u32 (p.time : Int), .int .u32 (p.ssrc : Int), .slice A1 p.csrc.length c1, .int .u16 (p.prof : Int), .slice A2 p.ext.length c2, .slice A3 p.pay.length c3] ∧ IsP wc wc.heap.size A1 c1 A2 c2 A3 c3 p ∧ R8 wc wc.heap.size (some ⟨g3, 0, none⟩) L x3 lx ∧ Below z.heap.size z wc)
  case first =>
    by_cases hlen : 300 < q.pay.length
    · have hcut : (Instr.slice 26 (.slice B3 q.pay.length d3) none (some (.int .i64 300)) none).run Try.prog W4 = .ok (.slice B3 300 d3) W4 := run_cut_to W4 B3 q.pay.length d3 300 (by have := hq.pay.2.1; omega)
      have g3' : (300 : Int) < (q.pay.length : Int) := by omega
      have hp9 : (q.pay.take 300).length = 300 := by rw [List.length_take]; omega
      have b5 : Below z.heap.size z (W4.setCell ⟨z.heap.size, 8, none⟩ (.slice B3 300 d3)) := b4.setCell (p := ⟨z.heap.size, 8, none⟩) (Nat.le_refl _) _
      have hQ5 : Blk (W4.setCell ⟨z.heap.size, 8, none⟩ (.slice B3 300 d3)) z.heap.size 28 #[.bool q.m, .int .i64 q.ty, .int .u16 (q.seq : Int), .int .u32 (q.time : Int), .int .u32 (q.ssrc : Int), .slice B1 q.csrc.length d1, .int .u16 (q.prof : Int), .slice B2 q.ext.length d2, .slice B3 300 d3] := by
        have := hQ.set_ 8 (.slice B3 300 d3)
        simpa only [List.setIfInBounds_toArray, List.set_cons_succ, List.set_cons_zero] using this
      have hpay := (hq.pay.take_ 300 (by omega)).on b5
      have hP5 := hP.far (p := ⟨z.heap.size, 8, none⟩) (by simp only; omega) (.slice B3 300 d3)
      have hI5 : IsP (W4.setCell ⟨z.heap.size, 8, none⟩ (.slice B3 300 d3)) (W4.setCell ⟨z.heap.size, 8, none⟩ (.slice B3 300 d3)).heap.size A1 c1 A2 c2 A3 c3 p :=
        ⟨R32.far hI.csrc hfarh.out 8 _, R8.far hI.ext (fun o x => nine_no8 hQ) 8 _, R8.far hI.pay (fun o x => nine_no8 hQ) 8 _, hI.kinds⟩
      have hx5 := R8.far hx4 (fun o x => nine_no8 hQ) 8 (.slice B3 300 d3)
      have hrel := And.intro hQ5 (And.intro hpay (And.intro hP5 (And.intro hI5 (And.intro hx5 b5))))
      have hrelh := Lib.hid hrel
      clear hrel hQ5 hpay hP5 hI5 hx5 b5 hI hx4 b4 hP hQ
      go_wp2_with fail
      go_meet
      case rel =>
        obtain ⟨hQ5, hpay, hP5, hI5, hx5, b5⟩ := hrelh.out
        refine ⟨⟨q.m, q.ty, q.seq, q.time, q.ssrc, q.csrc, q.prof, q.ext, q.pay.take 300⟩, ?_, ⟨hq.csrc.on b5, hq.ext.on b5, ?_, ⟨hq.kinds.ty, hq.kinds.seq, hq.kinds.time, hq.kinds.ssrc, hq.kinds.prof, hq.kinds.csrc, hq.kinds.ext, by simp only [hp9]; omega⟩⟩, hP5, hI5, hx5, b5⟩
        · simp only [hp9]; exact hQ5
        · simp only [hp9]; exact hpay
    · have g3' : ¬ (300 : Int) < (q.pay.length : Int) := by omega
      have hrelh := Lib.hid (And.intro hQ (And.intro (hq.on b4) (And.intro hP (And.intro hI (And.intro hx4 b4)))))
      clear hI hx4 b4 hP hQ
      go_wp2_with fail
      go_meet
      case rel =>
        obtain ⟨h1, h2, h3, h4, h5, h6⟩ := hrelh.out
        exact ⟨q, h1, h2, h3, h4, h5, h6⟩
  case rest =>
    obtain ⟨r, hQ5, hr5, hP5, hI5, hx5, b5⟩ := hcut
    have hBb := hB.on b5
    have hPlt := hP5.lt
    have hQlt := hQ5.lt
    obtain ⟨y8, hy⟩ := or8 128 (bits BinOp.and .u8 turn 63)
    have hy8 := Lib.hid hy
    obtain ⟨R0, hR0⟩ : ∃ R0, z.heap.size = R0 := ⟨_, rfl⟩
    have b5h : Below R0 z wc := hR0 ▸ b5
    rw [hR0] at hQ5 hQlt
    have hR0h := Lib.hid hR0
    rw [hR0]
    clear hy j0 j1 j2 j3 j4 j5 j6 j7 j8 f8 hP hQ hI hx4 b4 b5 hR0 hq hB hfarh ho hrh hsz hb12 hs12 hLh
    go_upto_region 6 with (fail)
    refine wp_region_tbl [.val (.agg #[.bool p.m, .int .i64 p.ty, .int .u16 (p.seq : Int), .int .u32 (p.time : Int), .int .u32 (p.ssrc : Int), .slice A1 p.csrc.length c1, .int .u16 (p.prof : Int), .slice A2 p.ext.length c2, .slice A3 p.pay.length c3]), .val (.bool true), .val (.bool true), .val (.agg #[.bool p.m, .int .i64 p.ty, .int .u16 (p.seq : Int), .int .u32 (p.time : Int), .int .u32 (p.ssrc : Int), .slice A1 p.csrc.length c1, .int .u16 (p.prof : Int), .slice A2 p.ext.length c2, .slice A3 p.pay.length c3]), .val (.int .i64 what), .val (.int .i64 nn), pktC 70, .val (.bool true), .val (.bool true), .val (.bool true), .val (.agg #[.bool p.m, .int .i64 p.ty, .int .u16 (p.seq : Int), .int .u32 (p.time : Int), .int .u32 (p.ssrc : Int), .slice A1 p.csrc.length c1, .int .u16 (p.prof : Int), .slice A2 p.ext.length c2, .slice A3 p.pay.length c3]), .val (.int .i64 what), .val (.int .i64 nn), pktC 70, .val (.int .i64 at'), .val (.int .i64 nn), .val (.int .i64 (bits BinOp.and .i64 nn 127)), pktC 72, .val (.bool true), .val (.bool true), .val (.bool true), .val (.agg #[.bool r.m, .int .i64 r.ty, .int .u16 (r.seq : Int), .int .u32 (r.time : Int), .int .u32 (r.ssrc : Int), .slice B1 r.csrc.length d1, .int .u16 (r.prof : Int), .slice B2 r.ext.length d2, .slice B3 r.pay.length d3]), .val (.bool true), .val (.bool true), .val (.bool true), .val (.slice (some ⟨g3, 0, none⟩) L x3), .val (.bool true), .val (.bool true), .val (.bool true), .val (.slice Ab nb cb), .val (.bool true), .val (.bool true), .val (.bool true), .val (.int .u8 turn), .val (.int .u8 (bits BinOp.and .u8 turn 63)), .val (.int .u8 (y8.toNat : Int)), oneC y8, .val (.slice Ab nb cb), octC (y8 :: lb), .val (.bool true), .val (.bool true), .val (.bool true), .val (.agg #[.bool p.m, .int .i64 p.ty, .int .u16 (p.seq : Int), .int .u32 (p.time : Int), .int .u32 (p.ssrc : Int), .slice A1 p.csrc.length c1, .int .u16 (p.prof : Int), .slice A2 p.ext.length c2, .slice A3 p.pay.length c3]), .val (.agg #[.bool r.m, .int .i64 r.ty, .int .u16 (r.seq : Int), .int .u32 (r.time : Int), .int .u32 (r.ssrc : Int), .slice B1 r.csrc.length d1, .int .u16 (r.prof : Int), .slice B2 r.ext.length d2, .slice B3 r.pay.length d3]), .val (.bool (samePk p r)), .val (.agg #[.bool p.m, .int .i64 p.ty, .int .u16 (p.seq : Int), .int .u32 (p.time : Int), .int .u32 (p.ssrc : Int), .slice A1 p.csrc.length c1, .int .u16 (p.prof : Int), .slice A2 p.ext.length c2, .slice A3 p.pay.length c3]), .val (.agg #[.bool r.m, .int .i64 r.ty, .int .u16 (r.seq : Int), .int .u32 (r.time : Int), .int .u32 (r.ssrc : Int), .slice B1 r.csrc.length d1, .int .u16 (r.prof : Int), .slice B2 r.ext.length d2, .slice B3 r.pay.length d3]), .val (.bool (samePk p r)), .val (.bool true), .val (.bool true), .val (.bool true), .val (.bool true), .val (.bool true), .val (.bool true)] (by kernel_rfl) (by kernel_rfl) (by kernel_rfl) (AllObl.all ⟨?_, ?_, ?_, ?_, ?_, ?_, ?_, ?_, ?_, ?_, ?_, ?_, ?_, ?_, ?_, ?_, ?_, ?_, ?_, ?_, ?_, ?_, ?_, ?_, ?_, ?_, ?_, ?_, ?_, ?_, ?_, ?_, ?_, ?_, ?_, ?_, ?_, ?_, ?_, ?_, ?_, ?_, ?_, ?_, ?_, ?_, ?_, ?_, ?_, ?_, ?_, ?_, ?_, ?_, trivial⟩) ?_
    · exact Obl.pure trivial (.agg #[.bool p.m, .int .i64 p.ty, .int .u16 (p.seq : Int), .int .u32 (p.time : Int), .int .u32 (p.ssrc : Int), .slice A1 p.csrc.length c1, .int .u16 (p.prof : Int), .slice A2 p.ext.length c2, .slice A3 p.pay.length c3]) (by kernel_rfl) (fun ev w hb hx => by
        have e15 : ev (.tmp 15) = .pointer (some ⟨P, 0, none⟩) := holds_val (hx (.tmp 15)) (by kernel_rfl)
        (obtain ⟨m0, m1, m2, m3, m4, m5, m6, m7, m8⟩ := blk9 (hP5.below ((drew_below _).trans hb) hPlt); simp [execOp, e15, go_sem, m0, m1, m2, m3, m4, m5, m6, m7, m8]))
    · exact Obl.call trivial 12 #[.tmp 46] _ rfl Try.f12 Try.func12 (by kernel_rfl) (by kernel_rfl) (fun ev w hb hx => by
        have e46 : ev (.tmp 46) = .agg #[.bool p.m, .int .i64 p.ty, .int .u16 (p.seq : Int), .int .u32 (p.time : Int), .int .u32 (p.ssrc : Int), .slice A1 p.csrc.length c1, .int .u16 (p.prof : Int), .slice A2 p.ext.length c2, .slice A3 p.pay.length c3] := holds_val (hx (.tmp 46)) (by kernel_rfl)
        simp only [List.map_toArray, List.map_cons, List.map_nil, e46]
        exact ((show Calls _ _ #[.agg #[.bool p.m, .int .i64 p.ty, .int .u16 (p.seq : Int), .int .u32 (p.time : Int), .int .u32 (p.ssrc : Int), .slice A1 p.csrc.length c1, .int .u16 (p.prof : Int), .slice A2 p.ext.length c2, .slice A3 p.pay.length c3]] _ _ from law_same p A1 c1 A2 c2 A3 c3 w (hI5.on ((drew_below _).trans hb)))).mono fun _ _ hh => Val.holds (by kernel_rfl) hh)
    · exact Obl.move trivial _ (Or.inl rfl) (by kernel_rfl)
    · exact Obl.pure ⟨by kernel_rfl, by kernel_rfl, by kernel_rfl⟩ (.agg #[.bool p.m, .int .i64 p.ty, .int .u16 (p.seq : Int), .int .u32 (p.time : Int), .int .u32 (p.ssrc : Int), .slice A1 p.csrc.length c1, .int .u16 (p.prof : Int), .slice A2 p.ext.length c2, .slice A3 p.pay.length c3]) (by kernel_rfl) (fun ev w hb hx => by
        have e15 : ev (.tmp 15) = .pointer (some ⟨P, 0, none⟩) := holds_val (hx (.tmp 15)) (by kernel_rfl)
        (obtain ⟨m0, m1, m2, m3, m4, m5, m6, m7, m8⟩ := blk9 (hP5.below ((drew_below _).trans hb) hPlt); simp [execOp, e15, go_sem, m0, m1, m2, m3, m4, m5, m6, m7, m8]))
    · exact Obl.move ⟨by kernel_rfl, by kernel_rfl, by kernel_rfl⟩ _ (Or.inl rfl) (by kernel_rfl)
    · exact Obl.move ⟨by kernel_rfl, by kernel_rfl, by kernel_rfl⟩ _ (Or.inl rfl) (by kernel_rfl)
    · exact Obl.call ⟨by kernel_rfl, by kernel_rfl, by kernel_rfl⟩ 13 #[.tmp 49, .tmp 50, .tmp 51] _ rfl Try.f13 Try.func13 (by kernel_rfl) (by kernel_rfl) (fun ev w hb hx => by
        have e49 : ev (.tmp 49) = .agg #[.bool p.m, .int .i64 p.ty, .int .u16 (p.seq : Int), .int .u32 (p.time : Int), .int .u32 (p.ssrc : Int), .slice A1 p.csrc.length c1, .int .u16 (p.prof : Int), .slice A2 p.ext.length c2, .slice A3 p.pay.length c3] := holds_val (hx (.tmp 49)) (by kernel_rfl)
        have e50 : ev (.tmp 50) = .int .i64 what := holds_val (hx (.tmp 50)) (by kernel_rfl)
        have e51 : ev (.tmp 51) = .int .i64 nn := holds_val (hx (.tmp 51)) (by kernel_rfl)
        simp only [List.map_toArray, List.map_cons, List.map_nil, e49, e50, e51]
        exact ((show Calls _ _ #[.agg #[.bool p.m, .int .i64 p.ty, .int .u16 (p.seq : Int), .int .u32 (p.time : Int), .int .u32 (p.ssrc : Int), .slice A1 p.csrc.length c1, .int .u16 (p.prof : Int), .slice A2 p.ext.length c2, .slice A3 p.pay.length c3], .int .i64 what, .int .i64 nn] _ _ from odd_c 70 p A1 c1 A2 c2 A3 c3 what nn w (hI5.on ((drew_below _).trans hb)) hwhat hnn (by omega) (by omega))).mono fun _ _ hh => pktC_ret (by kernel_rfl) hh)
    · exact Obl.call ⟨by kernel_rfl, by kernel_rfl, by kernel_rfl⟩ 12 #[.tmp 52] _ rfl Try.f12 Try.func12 (by kernel_rfl) (by kernel_rfl) (fun ev w hb hx => by
        obtain ⟨q52, C52, s52, D52, u52, E52, v52, e52, i52, k52⟩ := pktC70_of (hx (.tmp 52)) (by kernel_rfl)
        simp only [List.map_toArray, List.map_cons, List.map_nil, e52]
        exact ((law_same q52 C52 s52 D52 u52 E52 v52 w i52)).mono fun _ _ hh => Val.holds (by kernel_rfl) hh)
    · exact Obl.pick trivial _ _ _ rfl true (by kernel_rfl) (by kernel_rfl)
    · exact Obl.move trivial _ (Or.inl rfl) (by kernel_rfl)
    · exact Obl.pure ⟨by kernel_rfl, by kernel_rfl, by kernel_rfl⟩ (.agg #[.bool p.m, .int .i64 p.ty, .int .u16 (p.seq : Int), .int .u32 (p.time : Int), .int .u32 (p.ssrc : Int), .slice A1 p.csrc.length c1, .int .u16 (p.prof : Int), .slice A2 p.ext.length c2, .slice A3 p.pay.length c3]) (by kernel_rfl) (fun ev w hb hx => by
        have e15 : ev (.tmp 15) = .pointer (some ⟨P, 0, none⟩) := holds_val (hx (.tmp 15)) (by kernel_rfl)
        (obtain ⟨m0, m1, m2, m3, m4, m5, m6, m7, m8⟩ := blk9 (hP5.below ((drew_below _).trans hb) hPlt); simp [execOp, e15, go_sem, m0, m1, m2, m3, m4, m5, m6, m7, m8]))
    · exact Obl.move ⟨by kernel_rfl, by kernel_rfl, by kernel_rfl⟩ _ (Or.inl rfl) (by kernel_rfl)
    · exact Obl.move ⟨by kernel_rfl, by kernel_rfl, by kernel_rfl⟩ _ (Or.inl rfl) (by kernel_rfl)
    · exact Obl.call ⟨by kernel_rfl, by kernel_rfl, by kernel_rfl⟩ 13 #[.tmp 56, .tmp 57, .tmp 58] _ rfl Try.f13 Try.func13 (by kernel_rfl) (by kernel_rfl) (fun ev w hb hx => by
        have e56 : ev (.tmp 56) = .agg #[.bool p.m, .int .i64 p.ty, .int .u16 (p.seq : Int), .int .u32 (p.time : Int), .int .u32 (p.ssrc : Int), .slice A1 p.csrc.length c1, .int .u16 (p.prof : Int), .slice A2 p.ext.length c2, .slice A3 p.pay.length c3] := holds_val (hx (.tmp 56)) (by kernel_rfl)
        have e57 : ev (.tmp 57) = .int .i64 what := holds_val (hx (.tmp 57)) (by kernel_rfl)
        have e58 : ev (.tmp 58) = .int .i64 nn := holds_val (hx (.tmp 58)) (by kernel_rfl)
        simp only [List.map_toArray, List.map_cons, List.map_nil, e56, e57, e58]
        exact ((show Calls _ _ #[.agg #[.bool p.m, .int .i64 p.ty, .int .u16 (p.seq : Int), .int .u32 (p.time : Int), .int .u32 (p.ssrc : Int), .slice A1 p.csrc.length c1, .int .u16 (p.prof : Int), .slice A2 p.ext.length c2, .slice A3 p.pay.length c3], .int .i64 what, .int .i64 nn] _ _ from odd_c 70 p A1 c1 A2 c2 A3 c3 what nn w (hI5.on ((drew_below _).trans hb)) hwhat hnn (by omega) (by omega))).mono fun _ _ hh => pktC_ret (by kernel_rfl) hh)
    · exact Obl.move ⟨by kernel_rfl, by kernel_rfl, by kernel_rfl⟩ _ (Or.inl rfl) (by kernel_rfl)
    · exact Obl.move ⟨by kernel_rfl, by kernel_rfl, by kernel_rfl⟩ _ (Or.inl rfl) (by kernel_rfl)
    · exact Obl.bin ⟨by kernel_rfl, by kernel_rfl, by kernel_rfl⟩ .and _ (.tmp 61) (.const (.int .i64 127)) _ rfl (.int .i64 nn) (.int .i64 127) (.int .i64 (bits BinOp.and .i64 nn 127)) (by kernel_rfl) (by kernel_rfl) (fun w => by simp [eqGuard, go_sem]) (by kernel_rfl)
    · exact Obl.call ⟨by kernel_rfl, by kernel_rfl, by kernel_rfl⟩ 13 #[.tmp 59, .tmp 60, .tmp 62] _ rfl Try.f13 Try.func13 (by kernel_rfl) (by kernel_rfl) (fun ev w hb hx => by
        obtain ⟨q59, C59, s59, D59, u59, E59, v59, e59, i59, k59⟩ := pktC70_of (hx (.tmp 59)) (by kernel_rfl)
        have e60 : ev (.tmp 60) = .int .i64 at' := holds_val (hx (.tmp 60)) (by kernel_rfl)
        have e62 : ev (.tmp 62) = .int .i64 (bits BinOp.and .i64 nn 127) := holds_val (hx (.tmp 62)) (by kernel_rfl)
        simp only [List.map_toArray, List.map_cons, List.map_nil, e59, e60, e62]
        exact ((odd_c 72 q59 C59 s59 D59 u59 E59 v59 at' (bits BinOp.and .i64 nn 127) w i59 hat (i64_bits _ _ _) (by omega) (by omega))).mono fun _ _ hh => pktC_ret (by kernel_rfl) hh)
    · exact Obl.call ⟨by kernel_rfl, by kernel_rfl, by kernel_rfl⟩ 12 #[.tmp 63] _ rfl Try.f12 Try.func12 (by kernel_rfl) (by kernel_rfl) (fun ev w hb hx => by
        obtain ⟨q63, C63, s63, D63, u63, E63, v63, e63, i63, k63⟩ := pktC72_of (hx (.tmp 63)) (by kernel_rfl)
        simp only [List.map_toArray, List.map_cons, List.map_nil, e63]
        exact ((law_same q63 C63 s63 D63 u63 E63 v63 w i63)).mono fun _ _ hh => Val.holds (by kernel_rfl) hh)
    · exact Obl.pick trivial _ _ _ rfl true (by kernel_rfl) (by kernel_rfl)
    · exact Obl.move trivial _ (Or.inl rfl) (by kernel_rfl)
    · exact Obl.pure ⟨by kernel_rfl, by kernel_rfl, by kernel_rfl⟩ (.agg #[.bool r.m, .int .i64 r.ty, .int .u16 (r.seq : Int), .int .u32 (r.time : Int), .int .u32 (r.ssrc : Int), .slice B1 r.csrc.length d1, .int .u16 (r.prof : Int), .slice B2 r.ext.length d2, .slice B3 r.pay.length d3]) (by kernel_rfl) (fun ev w hb hx => by
        have e10 : ev (.tmp 10) = .pointer (some ⟨R0, 0, none⟩) := holds_val (hx (.tmp 10)) (by kernel_rfl)
        (obtain ⟨m0, m1, m2, m3, m4, m5, m6, m7, m8⟩ := blk9 (hQ5.below ((drew_below _).trans hb) hQlt); simp [execOp, e10, go_sem, m0, m1, m2, m3, m4, m5, m6, m7, m8]))
    · exact Obl.call ⟨by kernel_rfl, by kernel_rfl, by kernel_rfl⟩ 12 #[.tmp 67] _ rfl Try.f12 Try.func12 (by kernel_rfl) (by kernel_rfl) (fun ev w hb hx => by
        have e67 : ev (.tmp 67) = .agg #[.bool r.m, .int .i64 r.ty, .int .u16 (r.seq : Int), .int .u32 (r.time : Int), .int .u32 (r.ssrc : Int), .slice B1 r.csrc.length d1, .int .u16 (r.prof : Int), .slice B2 r.ext.length d2, .slice B3 r.pay.length d3] := holds_val (hx (.tmp 67)) (by kernel_rfl)
        simp only [List.map_toArray, List.map_cons, List.map_nil, e67]
        exact ((show Calls _ _ #[.agg #[.bool r.m, .int .i64 r.ty, .int .u16 (r.seq : Int), .int .u32 (r.time : Int), .int .u32 (r.ssrc : Int), .slice B1 r.csrc.length d1, .int .u16 (r.prof : Int), .slice B2 r.ext.length d2, .slice B3 r.pay.length d3]] _ _ from law_same r B1 d1 B2 d2 B3 d3 w (hr5.on ((drew_below _).trans hb)))).mono fun _ _ hh => Val.holds (by kernel_rfl) hh)
    · exact Obl.pick trivial _ _ _ rfl true (by kernel_rfl) (by kernel_rfl)
    · exact Obl.move trivial _ (Or.inl rfl) (by kernel_rfl)
    · exact Obl.move ⟨by kernel_rfl, by kernel_rfl, by kernel_rfl⟩ _ (Or.inl rfl) (by kernel_rfl)
    · exact Obl.call ⟨by kernel_rfl, by kernel_rfl, by kernel_rfl⟩ 14 #[.tmp 71] _ rfl Try.f14 Try.func14 (by kernel_rfl) (by kernel_rfl) (fun ev w hb hx => by
        have e71 : ev (.tmp 71) = .slice (some ⟨g3, 0, none⟩) L x3 := holds_val (hx (.tmp 71)) (by kernel_rfl)
        simp only [List.map_toArray, List.map_cons, List.map_nil, e71]
        exact ((law_reads _ _ _ lx w (hx5.on ((drew_below _).trans hb)) (by omega))).mono fun _ _ hh => Val.holds (by kernel_rfl) hh)
    · exact Obl.pick trivial _ _ _ rfl true (by kernel_rfl) (by kernel_rfl)
    · exact Obl.move trivial _ (Or.inl rfl) (by kernel_rfl)
    · exact Obl.move ⟨by kernel_rfl, by kernel_rfl, by kernel_rfl⟩ _ (Or.inl rfl) (by kernel_rfl)
    · exact Obl.call ⟨by kernel_rfl, by kernel_rfl, by kernel_rfl⟩ 14 #[.tmp 75] _ rfl Try.f14 Try.func14 (by kernel_rfl) (by kernel_rfl) (fun ev w hb hx => by
        have e75 : ev (.tmp 75) = .slice Ab nb cb := holds_val (hx (.tmp 75)) (by kernel_rfl)
        simp only [List.map_toArray, List.map_cons, List.map_nil, e75]
        exact ((law_reads _ _ _ lb w (hBb.on ((drew_below _).trans hb)) (by omega))).mono fun _ _ hh => Val.holds (by kernel_rfl) hh)
    · exact Obl.pick trivial _ _ _ rfl true (by kernel_rfl) (by kernel_rfl)
    · exact Obl.move trivial _ (Or.inl rfl) (by kernel_rfl)
    · exact Obl.move ⟨by kernel_rfl, by kernel_rfl, by kernel_rfl⟩ _ (Or.inl rfl) (by kernel_rfl)
    · exact Obl.bin ⟨by kernel_rfl, by kernel_rfl, by kernel_rfl⟩ .and _ (.tmp 79) (.const (.int .u8 63)) _ rfl (.int .u8 turn) (.int .u8 63) (.int .u8 (bits BinOp.and .u8 turn 63)) (by kernel_rfl) (by kernel_rfl) (fun w => by simp [eqGuard, go_sem]) (by kernel_rfl)
    · exact Obl.bin ⟨by kernel_rfl, by kernel_rfl, by kernel_rfl⟩ .or _ (.const (.int .u8 128)) (.tmp 80) _ rfl (.int .u8 128) (.int .u8 (bits BinOp.and .u8 turn 63)) (.int .u8 (y8.toNat : Int)) (by kernel_rfl) (by kernel_rfl) (fun w => by have := hy8.out; simp [eqGuard, go_sem]; exact this) (by kernel_rfl)
    · exact Obl.act ⟨by kernel_rfl, by kernel_rfl, by kernel_rfl⟩ (fun ev w hb hx => by
        have e81 : ev (.tmp 81) = .int .u8 (y8.toNat : Int) := holds_val (hx (.tmp 81)) (by kernel_rfl)
        (exact ⟨.slice (some ⟨w.heap.size, 0, none⟩) 1 1, w.alloc (.cells #[.int .u8 (y8.toNat : Int)] 5), by simp [execOp, e81, go_sem], (Below.refl _ _).alloc (Nat.le_refl _) _, oneC_mk (y := y8) (by kernel_rfl) ⟨w.heap.size, rfl, by simp, by simp⟩⟩))
    · exact Obl.move ⟨by kernel_rfl, by kernel_rfl, by kernel_rfl⟩ _ (Or.inl rfl) (by kernel_rfl)
    · exact Obl.act ⟨by kernel_rfl, by kernel_rfl, by kernel_rfl⟩ (fun ev w hb hx => by
        obtain ⟨g82, e82, hg82, k82⟩ := oneC_of (hx (.tmp 82)) (by kernel_rfl)
        have e83 : ev (.tmp 83) = .slice Ab nb cb := holds_val (hx (.tmp 83)) (by kernel_rfl)
        (obtain ⟨v', w', A', n', c', hrun, hb', hv', hr'⟩ := run_ahead w g82 y8 Ab nb cb lb k82 hg82 (hBb.on ((drew_below _).trans hb)) (by omega) 26; exact ⟨v', w', by simp [execOp, resolve, invoke, builtin, e82, e83, hrun], hb', octC_mk (l := y8 :: lb) (by kernel_rfl) ⟨A', n', c', hv', hr'⟩⟩))
    · exact Obl.call ⟨by kernel_rfl, by kernel_rfl, by kernel_rfl⟩ 14 #[.tmp 84] _ rfl Try.f14 Try.func14 (by kernel_rfl) (by kernel_rfl) (fun ev w hb hx => by
        obtain ⟨A84, n84, c84, e84, r84⟩ := octC_of (hx (.tmp 84)) (by kernel_rfl)
        simp only [List.map_toArray, List.map_cons, List.map_nil, e84]
        exact ((law_reads A84 n84 c84 (y8 :: lb) w r84 (by have := r84.1; have := hBb.1; simp at *; omega))).mono fun _ _ hh => Val.holds (by kernel_rfl) hh)
    · exact Obl.pick trivial _ _ _ rfl true (by kernel_rfl) (by kernel_rfl)
    · exact Obl.move trivial _ (Or.inl rfl) (by kernel_rfl)
    · exact Obl.pure ⟨by kernel_rfl, by kernel_rfl, by kernel_rfl⟩ (.agg #[.bool p.m, .int .i64 p.ty, .int .u16 (p.seq : Int), .int .u32 (p.time : Int), .int .u32 (p.ssrc : Int), .slice A1 p.csrc.length c1, .int .u16 (p.prof : Int), .slice A2 p.ext.length c2, .slice A3 p.pay.length c3]) (by kernel_rfl) (fun ev w hb hx => by
        have e15 : ev (.tmp 15) = .pointer (some ⟨P, 0, none⟩) := holds_val (hx (.tmp 15)) (by kernel_rfl)
        (obtain ⟨m0, m1, m2, m3, m4, m5, m6, m7, m8⟩ := blk9 (hP5.below ((drew_below _).trans hb) hPlt); simp [execOp, e15, go_sem, m0, m1, m2, m3, m4, m5, m6, m7, m8]))
    · exact Obl.pure ⟨by kernel_rfl, by kernel_rfl, by kernel_rfl⟩ (.agg #[.bool r.m, .int .i64 r.ty, .int .u16 (r.seq : Int), .int .u32 (r.time : Int), .int .u32 (r.ssrc : Int), .slice B1 r.csrc.length d1, .int .u16 (r.prof : Int), .slice B2 r.ext.length d2, .slice B3 r.pay.length d3]) (by kernel_rfl) (fun ev w hb hx => by
        have e10 : ev (.tmp 10) = .pointer (some ⟨R0, 0, none⟩) := holds_val (hx (.tmp 10)) (by kernel_rfl)
        (obtain ⟨m0, m1, m2, m3, m4, m5, m6, m7, m8⟩ := blk9 (hQ5.below ((drew_below _).trans hb) hQlt); simp [execOp, e10, go_sem, m0, m1, m2, m3, m4, m5, m6, m7, m8]))
    · exact Obl.call ⟨by kernel_rfl, by kernel_rfl, by kernel_rfl⟩ 15 #[.tmp 88, .tmp 89] _ rfl Try.f15 Try.func15 (by kernel_rfl) (by kernel_rfl) (fun ev w hb hx => by
        have e88 : ev (.tmp 88) = .agg #[.bool p.m, .int .i64 p.ty, .int .u16 (p.seq : Int), .int .u32 (p.time : Int), .int .u32 (p.ssrc : Int), .slice A1 p.csrc.length c1, .int .u16 (p.prof : Int), .slice A2 p.ext.length c2, .slice A3 p.pay.length c3] := holds_val (hx (.tmp 88)) (by kernel_rfl)
        have e89 : ev (.tmp 89) = .agg #[.bool r.m, .int .i64 r.ty, .int .u16 (r.seq : Int), .int .u32 (r.time : Int), .int .u32 (r.ssrc : Int), .slice B1 r.csrc.length d1, .int .u16 (r.prof : Int), .slice B2 r.ext.length d2, .slice B3 r.pay.length d3] := holds_val (hx (.tmp 89)) (by kernel_rfl)
        simp only [List.map_toArray, List.map_cons, List.map_nil, e88, e89]
        exact ((show Calls _ _ #[.agg #[.bool p.m, .int .i64 p.ty, .int .u16 (p.seq : Int), .int .u32 (p.time : Int), .int .u32 (p.ssrc : Int), .slice A1 p.csrc.length c1, .int .u16 (p.prof : Int), .slice A2 p.ext.length c2, .slice A3 p.pay.length c3], .agg #[.bool r.m, .int .i64 r.ty, .int .u16 (r.seq : Int), .int .u32 (r.time : Int), .int .u32 (r.ssrc : Int), .slice B1 r.csrc.length d1, .int .u16 (r.prof : Int), .slice B2 r.ext.length d2, .slice B3 r.pay.length d3]] _ _ from rtp_same p r A1 c1 A2 c2 A3 c3 B1 d1 B2 d2 B3 d3 w (hI5.on ((drew_below _).trans hb)) (hr5.on ((drew_below _).trans hb)))).mono fun _ _ hh => Val.holds (by kernel_rfl) hh)
    · exact Obl.pure ⟨by kernel_rfl, by kernel_rfl, by kernel_rfl⟩ (.agg #[.bool p.m, .int .i64 p.ty, .int .u16 (p.seq : Int), .int .u32 (p.time : Int), .int .u32 (p.ssrc : Int), .slice A1 p.csrc.length c1, .int .u16 (p.prof : Int), .slice A2 p.ext.length c2, .slice A3 p.pay.length c3]) (by kernel_rfl) (fun ev w hb hx => by
        have e15 : ev (.tmp 15) = .pointer (some ⟨P, 0, none⟩) := holds_val (hx (.tmp 15)) (by kernel_rfl)
        (obtain ⟨m0, m1, m2, m3, m4, m5, m6, m7, m8⟩ := blk9 (hP5.below ((drew_below _).trans hb) hPlt); simp [execOp, e15, go_sem, m0, m1, m2, m3, m4, m5, m6, m7, m8]))
    · exact Obl.pure ⟨by kernel_rfl, by kernel_rfl, by kernel_rfl⟩ (.agg #[.bool r.m, .int .i64 r.ty, .int .u16 (r.seq : Int), .int .u32 (r.time : Int), .int .u32 (r.ssrc : Int), .slice B1 r.csrc.length d1, .int .u16 (r.prof : Int), .slice B2 r.ext.length d2, .slice B3 r.pay.length d3]) (by kernel_rfl) (fun ev w hb hx => by
        have e10 : ev (.tmp 10) = .pointer (some ⟨R0, 0, none⟩) := holds_val (hx (.tmp 10)) (by kernel_rfl)
        (obtain ⟨m0, m1, m2, m3, m4, m5, m6, m7, m8⟩ := blk9 (hQ5.below ((drew_below _).trans hb) hQlt); simp [execOp, e10, go_sem, m0, m1, m2, m3, m4, m5, m6, m7, m8]))
    · exact Obl.call ⟨by kernel_rfl, by kernel_rfl, by kernel_rfl⟩ 16 #[.tmp 91, .tmp 92] _ rfl Try.f16 Try.func16 (by kernel_rfl) (by kernel_rfl) (fun ev w hb hx => by
        have e91 : ev (.tmp 91) = .agg #[.bool p.m, .int .i64 p.ty, .int .u16 (p.seq : Int), .int .u32 (p.time : Int), .int .u32 (p.ssrc : Int), .slice A1 p.csrc.length c1, .int .u16 (p.prof : Int), .slice A2 p.ext.length c2, .slice A3 p.pay.length c3] := holds_val (hx (.tmp 91)) (by kernel_rfl)
        have e92 : ev (.tmp 92) = .agg #[.bool r.m, .int .i64 r.ty, .int .u16 (r.seq : Int), .int .u32 (r.time : Int), .int .u32 (r.ssrc : Int), .slice B1 r.csrc.length d1, .int .u16 (r.prof : Int), .slice B2 r.ext.length d2, .slice B3 r.pay.length d3] := holds_val (hx (.tmp 92)) (by kernel_rfl)
        simp only [List.map_toArray, List.map_cons, List.map_nil, e91, e92]
        exact ((show Calls _ _ #[.agg #[.bool p.m, .int .i64 p.ty, .int .u16 (p.seq : Int), .int .u32 (p.time : Int), .int .u32 (p.ssrc : Int), .slice A1 p.csrc.length c1, .int .u16 (p.prof : Int), .slice A2 p.ext.length c2, .slice A3 p.pay.length c3], .agg #[.bool r.m, .int .i64 r.ty, .int .u16 (r.seq : Int), .int .u32 (r.time : Int), .int .u32 (r.ssrc : Int), .slice B1 r.csrc.length d1, .int .u16 (r.prof : Int), .slice B2 r.ext.length d2, .slice B3 r.pay.length d3]] _ _ from ref_same p r A1 c1 A2 c2 A3 c3 B1 d1 B2 d2 B3 d3 w (hI5.on ((drew_below _).trans hb)) (hr5.on ((drew_below _).trans hb)))).mono fun _ _ hh => Val.holds (by kernel_rfl) hh)
    · exact Obl.bin ⟨by kernel_rfl, by kernel_rfl, by kernel_rfl⟩ .eql _ (.tmp 90) (.tmp 93) _ rfl (.bool (samePk p r)) (.bool (samePk p r)) (.bool true) (by kernel_rfl) (by kernel_rfl) (fun w => by simp [eqGuard, go_sem]) (by kernel_rfl)
    · exact Obl.pick trivial _ _ _ rfl true (by kernel_rfl) (by kernel_rfl)
    · exact Obl.move trivial _ (Or.inl rfl) (by kernel_rfl)
    · exact Obl.call ⟨by kernel_rfl, by kernel_rfl, by kernel_rfl⟩ 17 #[] _ rfl Try.f17 Try.func17 (by kernel_rfl) (by kernel_rfl) (fun ev w hb hx => by
        simp only [List.map_toArray, List.map_nil]
        exact ((known_yes w)).mono fun _ _ hh => Val.holds (by kernel_rfl) hh)
    · exact Obl.pick trivial _ _ _ rfl true (by kernel_rfl) (by kernel_rfl)
    · exact Obl.move trivial _ (Or.inr rfl) (by kernel_rfl)
    intro a w4 hb hsz hdf hold hv
    have h14 : a.tmps.getD 14 undef = .bool true := holds_val (hv 53 14 (by kernel_rfl)) (by kernel_rfl)
    obtain ⟨tm, df⟩ := a
    have hdf' : df = [] := hdf
    subst hdf'
    have b5 : Below z.heap.size z wc := hR0h.out.symm ▸ b5h
    go_wp2
    go_ret
    exact ⟨congrArg _ h14, b5.drew.trans (hb.mono b5.size)⟩
end Go.Proofs.Ytpcdmcaojgpfoaa.RP
