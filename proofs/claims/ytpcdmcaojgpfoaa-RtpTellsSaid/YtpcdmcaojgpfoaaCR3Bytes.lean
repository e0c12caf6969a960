/- Contract: limelightref3.Bytes (under way: the ways of Right, then the two first bytes). -/
import Derived.Test.YtpcdmcaojgpfoaaCR3Right
import Derived.Test.YtpcdmcaojgpfoaaCRefPut
import Derived.BigQuiet
import Derived.Deep.QuietTactic
import Derived.Deep.CutRange
import Derived.Deep.Onto
import Derived.Test.YtpcdmcaojgpfoaaRegF
namespace Go.Proofs.Ytpcdmcaojgpfoaa
open Go.RowKit
set_option linter.unusedVariables false
set_option linter.unusedSimpArgs false
set_option maxRecDepth 20000

def RBOut (p : Pkt) (w : World) (e : Ending) (w' : World) : Prop :=
  (p.right = 0 → ∃ v, e = .returned (.tuple #[v, .int .i64 0]) ∧ Own8 w' w.heap.size v p.bytes ∧ Below w.heap.size w w') ∧
    (p.right ≠ 0 → e = .returned (.tuple #[.slice none 0 0, .int .i64 p.right]) ∧ Below w.heap.size w w')
theorem RBOut.no {p : Pkt} {w w' : World} {e : Ending} (h : p.right ≠ 0) (he : e = .returned (.tuple #[.slice none 0 0, .int .i64 p.right])) (hb : Below w.heap.size w w') : RBOut p w e w' :=
  ⟨fun h0 => absurd h0 h, fun _ => ⟨he, hb⟩⟩
theorem RBOut.yes {p : Pkt} {w w' : World} {v : Value} (h : p.right = 0) (ho : Own8 w' w.heap.size v p.bytes) (hb : Below w.heap.size w w') : RBOut p w (.returned (.tuple #[v, .int .i64 0])) w' :=
  ⟨fun _ => ⟨v, rfl, ho, hb⟩, fun hn => absurd h hn⟩
theorem below_drewNB (B : Nat) (w : World) (n : Nat) : Below B w (w.drewN n) := ⟨rfl, rfl, rfl, Nat.le_refl _, fun _ _ => rfl⟩
theorem Own8.base {w : World} {b b' : Nat} {v : Value} {l : List UInt8} (h : Own8 w b v l) (hb : b' ≤ b) : Own8 w b' v l := World.ownsRow.mono h hb
theorem Own8.keepB {a b : World} {B : Nat} {v : Value} {l : List UInt8} (h : Own8 a B v l) (hb : Below a.heap.size a b) : Own8 b B v l :=
  World.ownsRow.kept (row := none) h ⟨hb.os, hb.tape, hb.output, hb.size, fun k hk _ => hb.block k hk⟩ (by cases hv : v.ownBlock <;> simp)
/-- What stands while Bytes writes: the packet's block, the row so far. -/
def bytesF (w : World) (cs : Array Value) (v : Value) (l : List UInt8) : Frame where
  I := fun W => Below w.heap.size w W ∧ w.heap.size < W.heap.size ∧ Blk W w.heap.size 28 cs ∧ Own8 W (w.heap.size + 1) v l
  Fr := fun a b => Below a.heap.size a b
  refl := fun w _ => Below.refl _ w
  trans := fun a b c h k => h.trans (k.mono h.size)
  drew := fun W h => ⟨⟨h.1.trans (below_drewNB _ W 1), h.2.1, h.2.2.1.drew, h.2.2.2.drew⟩, below_drewNB _ W 1⟩
theorem bytesF_step {w W W' : World} {cs : Array Value} {v : Value} {l : List UInt8} (h : (bytesF w cs v l).I W) (hb : Below W.heap.size W W') : (bytesF w cs v l).I W' :=
  ⟨h.1.trans (hb.mono (Nat.le_of_lt h.2.1)), Nat.lt_of_lt_of_le h.2.1 hb.size, (hb.block _ h.2.1).trans h.2.2.1, h.2.2.2.keepB hb⟩
def ownC (w : World) (cs : Array Value) (v : Value) (l l' : List UInt8) : ClF (bytesF w cs v l) := .pred (fun x W => Own8 W (w.heap.size + 1) x l') (fun x a b _ hf _ h => Own8.keepB h hf)
theorem own_of {w : World} {cs : Array Value} {v : Value} {l l' : List UInt8} {c : ClF (bytesF w cs v l)} {x : Value} {W : World} (h : c.holds x W) (e : c = ownC w cs v l l') : Own8 W (w.heap.size + 1) x l' := by subst e; exact h
/-- Put onto a row of one's own. -/
theorem ref_put_row {w W : World} {cs : Array Value} {v : Value} {l : List UInt8} (hI : (bytesF w cs v l).I W) {x : Value} {l' : List UInt8} (ho : Own8 W (w.heap.size + 1) x l') (hn : l'.length ≤ 140737488351232) (n k : Nat) (hk : 1 ≤ k) (hk8 : k ≤ 8) (hx : n < 18446744073709551616) :
    Calls Try.prog 35 #[x, .int .u64 n, .int .i64 k] W (fun e W' => ∃ u, e = .returned u ∧ (bytesF w cs v l).I W' ∧ Below W.heap.size W W' ∧ Own8 W' (w.heap.size + 1) u (l' ++ be n k)) := by
  obtain ⟨A, c, rfl, hr⟩ := ho.r8
  refine (ref_put_own A _ c l' W hr hn n k hk hk8 hx).mono ?_
  rintro e W' ⟨u, rfl, h1, h2⟩
  exact ⟨u, rfl, bytesF_step hI h2, h2, h1.base hI.2.1⟩
theorem flat4_len : ∀ (l : List Nat) (q : Nat), l.length = q → (l.flatMap (fun x => be x 4)).length = 4 * q
  | [], q, h => by subst h; rfl
  | x :: l, q, h => by
    subst h
    rw [List.flatMap_cons, List.length_append, flat4_len l l.length rfl, be_len, List.length_cons]
    omega
theorem take_flat (l : List Nat) (q : Nat) (h : q < l.length) : (l.take q).flatMap (fun x => be x 4) ++ be (l.getD q 0) 4 = (l.take (q + 1)).flatMap (fun x => be x 4) := by
  rw [List.take_add_one, List.flatMap_append, List.getD_eq_getElem?_getD, List.getElem?_eq_getElem h]
  simp
theorem right_zero {p : Pkt} (h : p.right = 0) : 0 ≤ p.ty ∧ p.ty ≤ 127 ∧ p.csrc.length ≤ 15 ∧ p.ext.length % 4 = 0 ∧ (p.prof = 0 → p.ext.length = 0) ∧ p.size ≤ 1500 := by
  unfold Pkt.right at h
  by_cases ha : p.arg = true
  · rw [if_pos ha] at h; omega
  rw [if_neg ha] at h
  have h5 : p.size ≤ 1500 := by
    by_cases hs : 1500 < p.size
    · rw [if_pos hs] at h; omega
    · omega
  simp only [Pkt.arg, Bool.or_eq_true, decide_eq_true_eq, Bool.and_eq_true, not_or, not_and] at ha
  refine ⟨by omega, by omega, by omega, by omega, fun h0 => by have := ha.2.2.2.2 h0; omega, h5⟩
theorem or128 (n : Nat) (h : n ≤ 15) : bits BinOp.or .i64 128 (n : Int) = ((128 + n : Nat) : Int) := by
  have : ∀ m : Fin 16, bits BinOp.or .i64 128 ((m.val : Nat) : Int) = ((128 + m.val : Nat) : Int) := by decide
  exact this ⟨n, by omega⟩
theorem or16 (n : Nat) (h : n ≤ 15) : bits BinOp.or .i64 (128 + (n : Int)) 16 = ((144 + n : Nat) : Int) := by
  have : ∀ m : Fin 16, bits BinOp.or .i64 (128 + ((m.val : Nat) : Int)) 16 = ((144 + m.val : Nat) : Int) := by decide
  exact this ⟨n, by omega⟩
theorem orT (n : Nat) (h : n ≤ 127) : bits BinOp.or .i64 (n : Int) 128 = ((n + 128 : Nat) : Int) := by
  have : ∀ m : Fin 128, bits BinOp.or .i64 ((m.val : Nat) : Int) 128 = ((m.val + 128 : Nat) : Int) := by decide
  exact this ⟨n, by omega⟩
set_option maxHeartbeats 4000000 in
theorem ref_bytes (p : Pkt) (A1 : Option Addr) (c1 : Nat) (A2 : Option Addr) (c2 : Nat) (A3 : Option Addr) (c3 : Nat) (w : World) (hp : IsP w w.heap.size A1 c1 A2 c2 A3 c3 p) :
    Calls Try.prog 10 #[p.val A1 c1 A2 c2 A3 c3] w (RBOut p w) := by
  have hr := fun W => ref_right p A1 c1 A2 c2 A3 c3 W hp.kinds
  have hno := fun (w' : World) e (h : p.right ≠ 0) he hb => @RBOut.no p w w' e h he hb
  simp only [Pkt.val] at hr ⊢
  have hZ : Blk (w.alloc (.cells #[.bool p.m, .int .i64 p.ty, .int .u16 (p.seq : Int), .int .u32 (p.time : Int), .int .u32 (p.ssrc : Int), .slice A1 p.csrc.length c1, .int .u16 (p.prof : Int), .slice A2 p.ext.length c2, .slice A3 p.pay.length c3] 28)) w.heap.size 28 #[.bool p.m, .int .i64 p.ty, .int .u16 (p.seq : Int), .int .u32 (p.time : Int), .int .u32 (p.ssrc : Int), .slice A1 p.csrc.length c1, .int .u16 (p.prof : Int), .slice A2 p.ext.length c2, .slice A3 p.pay.length c3] := Blk.new _ _ _
  have hb : Below w.heap.size w (w.alloc (.cells #[.bool p.m, .int .i64 p.ty, .int .u16 (p.seq : Int), .int .u32 (p.time : Int), .int .u32 (p.ssrc : Int), .slice A1 p.csrc.length c1, .int .u16 (p.prof : Int), .slice A2 p.ext.length c2, .slice A3 p.pay.length c3] 28)) := (Below.refl _ w).alloc (Nat.le_refl _) _
  go_enter Try.func10, Try.ntmps10
  by_cases h0 : p.right = 0
  rotate_left
  · have g0 : (p.right != 0) = true := by simpa using h0
    go_wp2_with fail
    refine (hr _).mono ?_
    rintro e w1 ⟨rfl, b1⟩
    have b1' := hb.trans (b1.mono hb.size)
    clear hr b1 hb hZ
    go_wp2_with fail
    go_ret2
    exact hno _ _ h0 rfl b1'
  have g0 : (p.right != 0) = false := by simp [h0]
  go_wp2_with fail
  refine (hr _).mono ?_
  rintro e w1 ⟨rfl, b1⟩
  have b1' := hb.trans (b1.mono hb.size)
  have hZ1 : Blk w1 w.heap.size 28 #[.bool p.m, .int .i64 p.ty, .int .u16 (p.seq : Int), .int .u32 (p.time : Int), .int .u32 (p.ssrc : Int), .slice A1 p.csrc.length c1, .int .u16 (p.prof : Int), .slice A2 p.ext.length c2, .slice A3 p.pay.length c3] := (b1.block _ hZ.lt).trans hZ
  clear hr b1 hb hZ hno
  go_upto_region 4 with (fail)
  have k0 : w1.cell? ⟨w.heap.size, 0, none⟩ = some (.bool p.m) := hZ1.cell 0
  have k1 : w1.cell? ⟨w.heap.size, 1, none⟩ = some (.int .i64 p.ty) := hZ1.cell 1
  have k5 : w1.cell? ⟨w.heap.size, 5, none⟩ = some (.slice A1 p.csrc.length c1) := hZ1.cell 5
  have k6 : w1.cell? ⟨w.heap.size, 6, none⟩ = some (.int .u16 (p.prof : Int)) := hZ1.cell 6
  obtain ⟨z1, z2, z3, z4, z5, z6⟩ := right_zero h0
  have hk := hp.kinds
  obtain ⟨T, hT, hT'⟩ : ∃ T : Nat, p.ty = T ∧ T ≤ 127 := ⟨p.ty.toNat, by omega, by omega⟩
  rw [hT] at k1
  have hTh := Lib.hid hT
  clear hT
  go_quiet (fail)
  generalize hW : w1.drewN nq = W
  have hbW : Below w.heap.size w W := b1'.trans (hW ▸ below_drewNB _ _ _)
  have hZW : Blk W w.heap.size 28 #[.bool p.m, .int .i64 p.ty, .int .u16 (p.seq : Int), .int .u32 (p.time : Int), .int .u32 (p.ssrc : Int), .slice A1 p.csrc.length c1, .int .u16 (p.prof : Int), .slice A2 p.ext.length c2, .slice A3 p.pay.length c3] := hW ▸ hZ1
  clear hW b1' hZ1 k0 k1 k5 k6
  obtain ⟨M, hM⟩ : ∃ M, p.m = M := ⟨_, rfl⟩
  have k0 : W.cell? ⟨w.heap.size, 0, none⟩ = some (.bool M) := hM ▸ hZW.cell 0
  have hMh := Lib.hid hM
  clear hM
  have k6' := Lib.hid k0
  clear k0
  have k6 : W.cell? ⟨w.heap.size, 6, none⟩ = some (.int .u16 (p.prof : Int)) := hZW.cell 6
  have o1 := or128 p.csrc.length z3
  have o2 := or16 p.csrc.length z3
  have o3 := orT T hT'
  rw [o1]
  clear o1
  go_upto_if 23 with (fail)
  have o2' := Lib.hid o2
  clear o2
  go_cut [5] from 21 to 25 (fun s5 wc => ∃ F : Nat, F = 128 + p.csrc.length + (if p.prof = 0 then 0 else 16) ∧ s5 = .int .i64 (F : Int) ∧ W = wc)
  case first =>
    by_cases ga : p.prof = 0
    · have g : ((p.prof : Int) != 0) = false := by simp; omega
      go_wp2_with fail
      go_meet
      case rel => exact ⟨128 + p.csrc.length, by simp [ga], by simp, rfl⟩
    · have g : ((p.prof : Int) != 0) = true := by simp; omega
      go_wp2_with fail
      go_meet
      case rel => exact ⟨144 + p.csrc.length, by simp only [if_neg ga]; omega, congrArg (Value.int .i64) o2'.out, rfl⟩
  case rest =>
    obtain ⟨F, hF, rfl, rfl⟩ := hcut
    have hFh := Lib.hid hF
    clear hF o2'
    have k0 := k6'.out
    go_upto_if 27 with (fail)
    have o3' := Lib.hid o3
    clear o3
    go_cut [6] from 26 to 29 (fun s6 wc => ∃ G : Nat, G = T + (if M = true then 128 else 0) ∧ s6 = .int .i64 (G : Int) ∧ W = wc)
    case first =>
      cases M
      · clear k0 k6' hMh
        go_wp2_with fail
        go_meet
        case rel => exact ⟨T, by simp, by simp, rfl⟩
      · clear k0 k6' hMh
        go_wp2_with fail
        go_meet
        case rel => exact ⟨T + 128, by simp, congrArg (Value.int .i64) o3'.out, rfl⟩
    case rest =>
      obtain ⟨G, hG, rfl, rfl⟩ := hcut
      have hGh := Lib.hid hG
      clear hG o3'
      have k2 : W.cell? ⟨w.heap.size, 2, none⟩ = some (.int .u16 (p.seq : Int)) := hZW.cell 2
      have hlt := hZW.lt
      have hF9 : F < 256 := by have := hFh.out; split at this <;> omega
      have hG9 : G < 256 := by have := hGh.out; split at this <;> omega
      have f8 : (F : Int) % 256 = F := by omega
      have g8 : (G : Int) % 256 = G := by omega
      have hsq : (p.seq : Int) % 18446744073709551616 = p.seq := by have := hk.seq; omega
      clear k0 k6
      have hcs : ([UInt8.ofNat F, UInt8.ofNat G].map bv).toArray = #[.int .u8 (F : Int), .int .u8 (G : Int)] := by simp [bv, Nat.mod_eq_of_lt hF9, Nat.mod_eq_of_lt hG9]
      have hcsh := Lib.hid hcs
      clear hcs
      go_wp2_with fail
      refine (ref_put_own _ 2 2 [UInt8.ofNat F, UInt8.ofNat G] _ (lit_r8_at _ _ 2 _ _ W rfl rfl hcsh.out) (by omega) p.seq 2 (by omega) (by omega) (by have := hk.seq; omega)).mono ?_
      rintro e w3 ⟨v3, rfl, ho3, b3⟩
      have ho3' := Own8.base ho3 (show w.heap.size + 1 ≤ _ by simp; omega)
      have b3' := (hbW.alloc (Nat.le_of_lt hlt) _).trans (b3.mono (by simp; omega))
      have hZ3 : Blk w3 w.heap.size 28 #[.bool p.m, .int .i64 p.ty, .int .u16 (p.seq : Int), .int .u32 (p.time : Int), .int .u32 (p.ssrc : Int), .slice A1 p.csrc.length c1, .int .u16 (p.prof : Int), .slice A2 p.ext.length c2, .slice A3 p.pay.length c3] := (b3.block _ (by simp; omega)).trans (hZW.alloc _)
      clear ho3 b3 hZW hbW k2 f8 g8 hsq
      obtain ⟨l3, hl3⟩ : ∃ l3, [UInt8.ofNat F, UInt8.ofNat G] ++ be p.seq 2 = l3 := ⟨_, rfl⟩
      rw [hl3] at ho3'
      have hlen : l3.length = 4 := by rw [← hl3]; simp [be_len]
      have hl3h := Lib.hid hl3
      have hlenh := Lib.hid hlen
      clear hl3 hlen
      generalize hcsv : (#[.bool p.m, .int .i64 p.ty, .int .u16 (p.seq : Int), .int .u32 (p.time : Int), .int .u32 (p.ssrc : Int), .slice A1 p.csrc.length c1, .int .u16 (p.prof : Int), .slice A2 p.ext.length c2, .slice A3 p.pay.length c3] : Array Value) = cs at hZ3
      have hI3 : (bytesF w cs v3 l3).I w3 := ⟨b3', hZ3.lt, hZ3, ho3'⟩
      have hcs3 : cs[3]? = some (.int .u32 (p.time : Int)) := by subst hcsv; rfl
      have hcs4 : cs[4]? = some (.int .u32 (p.ssrc : Int)) := by subst hcsv; rfl
      have hcsvh := Lib.hid hcsv
      clear hcsv
      go_upto_region 10 with (fail)
      refine wp_region_f (F := bytesF w cs v3 l3)
        [.val v3, .val (.pointer (some ⟨w.heap.size, 3, none⟩)), .val (.int .u32 (p.time : Int)), .val (.int .u64 (p.time : Int)), ownC w cs v3 l3 (l3 ++ be p.time 4), .val (.pointer (some ⟨w.heap.size, 4, none⟩)), .val (.int .u32 (p.ssrc : Int)), .val (.int .u64 (p.ssrc : Int)), ownC w cs v3 l3 (l3 ++ be p.time 4 ++ be p.ssrc 4), ownC w cs v3 l3 (l3 ++ be p.time 4 ++ be p.ssrc 4)]
        (by kernel_rfl) (by kernel_rfl) (by kernel_rfl) hI3 (AllOblF.all ⟨?_, ?_, ?_, ?_, ?_, ?_, ?_, ?_, ?_, ?_, trivial⟩) ?_
      · exact OblF.move rfl _ (Or.inl rfl) (by kernel_rfl) rfl
      · refine OblF.pure rfl (.pointer (some ⟨w.heap.size, 3, none⟩)) (by kernel_rfl) rfl fun ev W hI hf hx => ?_
        have e3 : ev (.tmp 1) = .pointer (some ⟨w.heap.size, 0, none⟩) := holds_valF (hx (.tmp 1)) (by kernel_rfl)
        simp [execOp, e3, go_sem]
      · refine OblF.pure rfl (.int .u32 (p.time : Int)) (by kernel_rfl) rfl fun ev W hI hf hx => ?_
        have e3 : ev (.tmp 40) = .pointer (some ⟨w.heap.size, 3, none⟩) := holds_valF (hx (.tmp 40)) (by kernel_rfl)
        have c5 := (hI.2.2.1.cell 3).trans hcs3
        simp [execOp, e3, go_sem, c5]
      · refine OblF.pure rfl (.int .u64 (p.time : Int)) (by kernel_rfl) rfl fun ev W hI hf hx => ?_
        have e3 : ev (.tmp 41) = .int .u32 (p.time : Int) := holds_valF (hx (.tmp 41)) (by kernel_rfl)
        have e4 : IntKind.u64.wrap (p.time : Int) = p.time := by have := hk.time; show (p.time : Int) % 18446744073709551616 = p.time; omega
        simp [execOp, e3, go_sem, e4]
      · refine OblF.call rfl 35 #[.tmp 39, .tmp 42, .const (.int .i64 4)] _ rfl Try.f35 Try.func35 (by kernel_rfl) (by kernel_rfl) rfl fun ev W hI hf hx => ?_
        have e3 : ev (.tmp 39) = v3 := holds_valF (hx (.tmp 39)) (by kernel_rfl)
        have e4 : ev (.tmp 42) = .int .u64 (p.time : Int) := holds_valF (hx (.tmp 42)) (by kernel_rfl)
        have e5 : ev (.const (.int .i64 4)) = .int .i64 4 := holds_valF (hx (.const (.int .i64 4))) (by kernel_rfl)
        simp only [List.map_toArray, List.map_cons, List.map_nil, e3, e4, e5]
        refine (ref_put_row hI hI.2.2.2 (by have := hlenh.out; omega) p.time 4 (by omega) (by omega) (by have := hk.time; omega)).mono ?_
        rintro e W' ⟨u, rfl, h1, h2, h3⟩
        exact ⟨_, rfl, h1, h2, h3⟩
      · refine OblF.pure rfl (.pointer (some ⟨w.heap.size, 4, none⟩)) (by kernel_rfl) rfl fun ev W hI hf hx => ?_
        have e3 : ev (.tmp 1) = .pointer (some ⟨w.heap.size, 0, none⟩) := holds_valF (hx (.tmp 1)) (by kernel_rfl)
        simp [execOp, e3, go_sem]
      · refine OblF.pure rfl (.int .u32 (p.ssrc : Int)) (by kernel_rfl) rfl fun ev W hI hf hx => ?_
        have e3 : ev (.tmp 44) = .pointer (some ⟨w.heap.size, 4, none⟩) := holds_valF (hx (.tmp 44)) (by kernel_rfl)
        have c5 := (hI.2.2.1.cell 4).trans hcs4
        simp [execOp, e3, go_sem, c5]
      · refine OblF.pure rfl (.int .u64 (p.ssrc : Int)) (by kernel_rfl) rfl fun ev W hI hf hx => ?_
        have e3 : ev (.tmp 45) = .int .u32 (p.ssrc : Int) := holds_valF (hx (.tmp 45)) (by kernel_rfl)
        have e4 : IntKind.u64.wrap (p.ssrc : Int) = p.ssrc := by have := hk.ssrc; show (p.ssrc : Int) % 18446744073709551616 = p.ssrc; omega
        simp [execOp, e3, go_sem, e4]
      · refine OblF.call rfl 35 #[.tmp 43, .tmp 46, .const (.int .i64 4)] _ rfl Try.f35 Try.func35 (by kernel_rfl) (by kernel_rfl) rfl fun ev W hI hf hx => ?_
        have e3 := own_of (l' := l3 ++ be p.time 4) (hx (.tmp 43)) (by kernel_rfl)
        have e4 : ev (.tmp 46) = .int .u64 (p.ssrc : Int) := holds_valF (hx (.tmp 46)) (by kernel_rfl)
        have e5 : ev (.const (.int .i64 4)) = .int .i64 4 := holds_valF (hx (.const (.int .i64 4))) (by kernel_rfl)
        simp only [List.map_toArray, List.map_cons, List.map_nil, e4, e5]
        refine (ref_put_row hI e3 (by have := hlenh.out; simp [be_len]; omega) p.ssrc 4 (by omega) (by omega) (by have := hk.ssrc; omega)).mono ?_
        rintro e W' ⟨u, rfl, h1, h2, h3⟩
        exact ⟨_, rfl, h1, h2, h3⟩
      · exact OblF.move rfl _ (Or.inr rfl) (by kernel_rfl) rfl
      intro a W hI hf hsz hdf hold hv
      have ha := act_puts [39, 40, 41, 42, 43, 44, 45, 46, 47, 7] (by kernel_rfl) hsz hdf hold
      simp only [putAll] at ha
      have o7 : Own8 W (w.heap.size + 1) (a.tmps.getD 7 undef) (l3 ++ be p.time 4 ++ be p.ssrc 4) := hv 9 (by decide)
      generalize a.tmps.getD 39 undef = x39 at ha
      generalize a.tmps.getD 40 undef = x40 at ha
      generalize a.tmps.getD 41 undef = x41 at ha
      generalize a.tmps.getD 42 undef = x42 at ha
      generalize a.tmps.getD 43 undef = x43 at ha
      generalize a.tmps.getD 44 undef = x44 at ha
      generalize a.tmps.getD 45 undef = x45 at ha
      generalize a.tmps.getD 46 undef = x46 at ha
      generalize a.tmps.getD 47 undef = x47 at ha
      generalize a.tmps.getD 7 undef = v7 at ha o7
      clear hv hold hsz hdf hf hI3 hcs3 hcs4 ho3' b3' hZ3
      subst ha
      simp only [Act.put, List.setIfInBounds_toArray, List.set_cons_succ, List.set_cons_zero]
      obtain ⟨bW, ltW, zW, _⟩ := hI
      have hcs5 : cs[5]? = some (.slice A1 p.csrc.length c1) := by have := hcsvh.out; subst this; rfl
      have k5 := (zW.cell 5).trans hcs5
      have hr32 := hp.csrc.on bW
      clear hcs5
      obtain ⟨l10, hl10⟩ : ∃ l10, l3 ++ be p.time 4 ++ be p.ssrc 4 = l10 := ⟨_, rfl⟩
      rw [hl10] at o7
      have hlenA : l10.length = 12 := by rw [← hl10]; simp [be_len, hlenh.out]
      have hl10h := Lib.hid hl10
      have hlenAh := Lib.hid hlenA
      clear hl10 hlenA
      go_wp2_with fail
      clear k5
      go_loopw [7, 51] (fun v i wr => ∃ q : Nat, q ≤ p.csrc.length ∧ i = .int .i64 (q : Int) ∧ (bytesF w cs v (l10 ++ (p.csrc.take q).flatMap (fun x => be x 4))).I wr) (fun _ i _ => p.csrc.length - (intOf i).toNat)
      case atStart => exact ⟨0, by omega, rfl, bW, ltW, zW, by simpa using o7⟩
      case round =>
        obtain ⟨q, hq, rfl, hIR⟩ := hrel
        obtain ⟨bR, ltR, zR, oR⟩ := id hIR
        have hfl : ((p.csrc.take q).flatMap (fun x => be x 4)).length = 4 * q := flat4_len _ q (by rw [List.length_take]; omega)
        have hflh := Lib.hid hfl
        clear hfl
        by_cases hlt : q < p.csrc.length
        · have g3 : decide ((q : Int) < (p.csrc.length : Int)) = true := by simp; omega
          have g5 : (q : Int) < (p.csrc.length : Int) := by omega
          have hrq := hp.csrc.on bR
          obtain ⟨x1, y1, rfl, yz1, u1⟩ := hrq.2.2.2 (by omega)
          have t1 := u1 q hlt
          have hxq := Lib.hid (show p.csrc.getD q 0 < 4294967296 by
            rw [List.getD_eq_getElem?_getD, List.getElem?_eq_getElem hlt]
            exact hrq.2.2.1 _ (List.getElem_mem hlt))
          have hgq := Lib.hid (take_flat p.csrc q hlt)
          clear u1 hrq
          generalize p.csrc.getD q 0 = a at t1 hxq hgq
          have e4 : (a : Int) % 18446744073709551616 = a := by have := hxq.out; omega
          go_wp2_with fail
          refine (ref_put_row hIR oR (by rw [List.length_append, hlenAh.out, hflh.out]; omega) a 4 (by omega) (by omega) (by have := hxq.out; omega)).mono ?_
          rintro e W' ⟨u, rfl, h1, h2, h3⟩
          clear t1 e4 hIR oR
          have hI2 : (bytesF w cs u (l10 ++ (p.csrc.take (q + 1)).flatMap (fun x => be x 4))).I W' := by
            refine ⟨h1.1, h1.2.1, h1.2.2.1, ?_⟩
            rw [← hgq.out, ← List.append_assoc]
            exact h3
          clear h1 h2 h3 bR ltR zR
          go_wp2_with fail
          go_roundw
          case rel => exact ⟨q + 1, by omega, by push_cast; rfl, hI2⟩
          case measure => simp [intOf]; omega
        · have g3 : decide ((q : Int) < (p.csrc.length : Int)) = false := by simp; omega
          have hql : q = p.csrc.length := by omega
          rw [hql, List.take_length] at oR
          clear hIR hflh hql
          have hz8 := z6
          unfold Pkt.size at hz8
          have hpl : p.pay.length ≤ 1500 := by omega
          have hel : p.ext.length ≤ 1500 := by
            by_cases h0' : p.prof = 0
            · have := z5 h0'; omega
            · rw [if_neg h0'] at hz8; omega
          have hcl : (l10 ++ p.csrc.flatMap (fun x => be x 4)).length ≤ 72 := by
            rw [List.length_append, hlenAh.out, flat4_len p.csrc _ rfl]; omega
          have hclh := Lib.hid hcl
          have hplh := Lib.hid hpl
          have helh := Lib.hid hel
          clear hz8 hcl hpl hel
          have k6 := (zR.cell 6).trans (show cs[6]? = some (.int .u16 (p.prof : Int)) by have := hcsvh.out; subst this; rfl)
          have k7 := (zR.cell 7).trans (show cs[7]? = some (.slice A2 p.ext.length c2) by have := hcsvh.out; subst this; rfl)
          have k8 := (zR.cell 8).trans (show cs[8]? = some (.slice A3 p.pay.length c3) by have := hcsvh.out; subst this; rfl)
          have hpay := hp.pay.on bR
          have hext := hp.ext.on bR
          by_cases ga : p.prof = 0
          · have g : ((p.prof : Int) != 0) = false := by simp; omega
            have gah := Lib.hid ga
            have hbb := Lib.hid (show (l10 ++ p.csrc.flatMap (fun x => be x 4)).length + p.pay.length ≤ 140737488355328 by have := hclh.out; have := hplh.out; omega)
            have hB1 : w.heap.size + 1 ≤ wr.heap.size := ltR
            clear ga
            go_wp2_with (at_builtin; go_loud (with_reducible refine wpList_append8 rfl (.tmp 78) (.tmp 80) rfl rfl (w.heap.size + 1) u7 _ (by with_unfolding_all rfl) oR wr.heap.size A3 _ c3 p.pay (by with_unfolding_all rfl) hpay hbb.out hB1 ?_); intro v9 w9 ha9)
            go_ret2
            have hb9 := ha9.below bR (Nat.le_of_lt ltR) oR (Nat.le_succ _)
            have eb : (l10 ++ p.csrc.flatMap (fun x => be x 4)) ++ p.pay = p.bytes := by
              rw [← hl10h.out, ← hl3h.out, hFh.out, hGh.out, hMh.out.symm]
              unfold Pkt.bytes
              simp [gah.out, hTh.out]
            have ho9 := ha9.1.base (Nat.le_succ w.heap.size)
            rw [eb] at ho9
            exact RBOut.yes h0 ho9 hb9
          · have g : ((p.prof : Int) != 0) = true := by simp; omega
            have gah := Lib.hid ga
            clear ga
            obtain ⟨l14, hl14⟩ : ∃ l14, l10 ++ p.csrc.flatMap (fun x => be x 4) = l14 := ⟨_, rfl⟩
            rw [hl14] at oR
            have hln14 := Lib.hid (show l14.length ≤ 72 by rw [← hl14]; exact hclh.out)
            have hl14h := Lib.hid hl14
            clear hl14
            have hI7 : (bytesF w cs u7 l14).I wr := ⟨bR, ltR, zR, oR⟩
            have hcs6 := Lib.hid (show cs[6]? = some (.int .u16 (p.prof : Int)) by have := hcsvh.out; subst this; rfl)
            have hcs7 := Lib.hid (show cs[7]? = some (.slice A2 p.ext.length c2) by have := hcsvh.out; subst this; rfl)
            have hcs8 := Lib.hid (show cs[8]? = some (.slice A3 p.pay.length c3) by have := hcsvh.out; subst this; rfl)
            go_upto_region 17 with (fail)
            refine wp_region_f (F := bytesF w cs u7 l14)
              [.val u7, .val (.pointer (some ⟨w.heap.size, 6, none⟩)), .val (.int .u16 (p.prof : Int)), .val (.int .u64 (p.prof : Int)), ownC w cs u7 l14 (l14 ++ be p.prof 2), .val (.pointer (some ⟨w.heap.size, 7, none⟩)), .val (.slice A2 p.ext.length c2), .val (.int .i64 (p.ext.length : Int)), .val (.int .i64 ((p.ext.length / 4 : Nat) : Int)), .val (.int .u64 ((p.ext.length / 4 : Nat) : Int)), ownC w cs u7 l14 (l14 ++ be p.prof 2 ++ be (p.ext.length / 4) 2), ownC w cs u7 l14 (l14 ++ be p.prof 2 ++ be (p.ext.length / 4) 2)]
              (by kernel_rfl) (by kernel_rfl) (by kernel_rfl) hI7 (AllOblF.all ⟨?_, ?_, ?_, ?_, ?_, ?_, ?_, ?_, ?_, ?_, ?_, ?_, trivial⟩) ?_
            · exact OblF.move rfl _ (Or.inl rfl) (by kernel_rfl) rfl
            · refine OblF.pure rfl (.pointer (some ⟨w.heap.size, 6, none⟩)) (by kernel_rfl) rfl fun ev W hI hf hx => ?_
              have e3 : ev (.tmp 1) = .pointer (some ⟨w.heap.size, 0, none⟩) := holds_valF (hx (.tmp 1)) (by kernel_rfl)
              simp [execOp, e3, go_sem]
            · refine OblF.pure rfl (.int .u16 (p.prof : Int)) (by kernel_rfl) rfl fun ev W hI hf hx => ?_
              have e3 : ev (.tmp 64) = .pointer (some ⟨w.heap.size, 6, none⟩) := holds_valF (hx (.tmp 64)) (by kernel_rfl)
              have c5 := (hI.2.2.1.cell 6).trans hcs6.out
              simp [execOp, e3, go_sem, c5]
            · refine OblF.pure rfl (.int .u64 (p.prof : Int)) (by kernel_rfl) rfl fun ev W hI hf hx => ?_
              have e3 : ev (.tmp 65) = .int .u16 (p.prof : Int) := holds_valF (hx (.tmp 65)) (by kernel_rfl)
              have e4 : IntKind.u64.wrap (p.prof : Int) = p.prof := by have := hk.prof; show (p.prof : Int) % 18446744073709551616 = p.prof; omega
              simp [execOp, e3, go_sem, e4]
            · refine OblF.call rfl 35 #[.tmp 63, .tmp 66, .const (.int .i64 2)] _ rfl Try.f35 Try.func35 (by kernel_rfl) (by kernel_rfl) rfl fun ev W hI hf hx => ?_
              have e3 : ev (.tmp 63) = u7 := holds_valF (hx (.tmp 63)) (by kernel_rfl)
              have e4 : ev (.tmp 66) = .int .u64 (p.prof : Int) := holds_valF (hx (.tmp 66)) (by kernel_rfl)
              have e5 : ev (.const (.int .i64 2)) = .int .i64 2 := holds_valF (hx (.const (.int .i64 2))) (by kernel_rfl)
              simp only [List.map_toArray, List.map_cons, List.map_nil, e3, e4, e5]
              refine (ref_put_row hI hI.2.2.2 (by have := hln14.out; omega) p.prof 2 (by omega) (by omega) (by have := hk.prof; omega)).mono ?_
              rintro e W' ⟨u, rfl, h1, h2, h3⟩
              exact ⟨_, rfl, h1, h2, h3⟩
            · refine OblF.pure rfl (.pointer (some ⟨w.heap.size, 7, none⟩)) (by kernel_rfl) rfl fun ev W hI hf hx => ?_
              have e3 : ev (.tmp 1) = .pointer (some ⟨w.heap.size, 0, none⟩) := holds_valF (hx (.tmp 1)) (by kernel_rfl)
              simp [execOp, e3, go_sem]
            · refine OblF.pure rfl (.slice A2 p.ext.length c2) (by kernel_rfl) rfl fun ev W hI hf hx => ?_
              have e3 : ev (.tmp 68) = .pointer (some ⟨w.heap.size, 7, none⟩) := holds_valF (hx (.tmp 68)) (by kernel_rfl)
              have c5 := (hI.2.2.1.cell 7).trans hcs7.out
              simp [execOp, e3, go_sem, c5]
            · refine OblF.pure rfl (.int .i64 (p.ext.length : Int)) (by kernel_rfl) rfl fun ev W hI hf hx => ?_
              have e3 : ev (.tmp 69) = .slice A2 p.ext.length c2 := holds_valF (hx (.tmp 69)) (by kernel_rfl)
              simp [execOp, e3, go_sem]
            · refine OblF.pure rfl (.int .i64 ((p.ext.length / 4 : Nat) : Int)) (by kernel_rfl) rfl fun ev W hI hf hx => ?_
              have e3 : ev (.tmp 70) = .int .i64 (p.ext.length : Int) := holds_valF (hx (.tmp 70)) (by kernel_rfl)
              have e4 : Int.tdiv (p.ext.length : Int) 4 = ((p.ext.length / 4 : Nat) : Int) := rfl
              have e5 : ev (.const (.int .i64 4)) = .int .i64 4 := holds_valF (hx (.const (.int .i64 4))) (by kernel_rfl)
              have e6 : IntKind.i64.wrap ((p.ext.length : Int) / 4) = (p.ext.length : Int) / 4 := by
                have h9 := helh.out
                show (if (true && decide (((p.ext.length : Int) / 4) % 18446744073709551616 ≥ 9223372036854775808)) = true then ((p.ext.length : Int) / 4) % 18446744073709551616 - 18446744073709551616 else ((p.ext.length : Int) / 4) % 18446744073709551616) = (p.ext.length : Int) / 4
                simp only [Bool.true_and, decide_eq_true_eq]
                rw [if_neg (by omega)]
                omega
              simp [execOp, e3, e5, go_sem, e4, e6]
            · refine OblF.pure rfl (.int .u64 ((p.ext.length / 4 : Nat) : Int)) (by kernel_rfl) rfl fun ev W hI hf hx => ?_
              have e3 : ev (.tmp 71) = .int .i64 ((p.ext.length / 4 : Nat) : Int) := holds_valF (hx (.tmp 71)) (by kernel_rfl)
              have e4 : IntKind.u64.wrap ((p.ext.length / 4 : Nat) : Int) = ((p.ext.length / 4 : Nat) : Int) := by have := helh.out; show ((p.ext.length / 4 : Nat) : Int) % 18446744073709551616 = _; omega
              simp only [execOp, e3]; simp [go_sem]; try exact e4
            · refine OblF.call rfl 35 #[.tmp 67, .tmp 72, .const (.int .i64 2)] _ rfl Try.f35 Try.func35 (by kernel_rfl) (by kernel_rfl) rfl fun ev W hI hf hx => ?_
              have e3 := own_of (l' := l14 ++ be p.prof 2) (hx (.tmp 67)) (by kernel_rfl)
              have e4 : ev (.tmp 72) = .int .u64 ((p.ext.length / 4 : Nat) : Int) := holds_valF (hx (.tmp 72)) (by kernel_rfl)
              have e5 : ev (.const (.int .i64 2)) = .int .i64 2 := holds_valF (hx (.const (.int .i64 2))) (by kernel_rfl)
              simp only [List.map_toArray, List.map_cons, List.map_nil, e4, e5]
              refine (ref_put_row hI e3 (by have := hln14.out; simp [be_len]; omega) (p.ext.length / 4) 2 (by omega) (by omega) (by have := helh.out; omega)).mono ?_
              rintro e W' ⟨u, rfl, h1, h2, h3⟩
              exact ⟨_, rfl, h1, h2, h3⟩
            · exact OblF.move rfl _ (Or.inr rfl) (by kernel_rfl) rfl
            intro a W' hI hf hsz hdf hold hv
            have ha := act_puts [63, 64, 65, 66, 67, 68, 69, 70, 71, 72, 73, 7] (by kernel_rfl) hsz hdf hold
            simp only [putAll] at ha
            have o17 : Own8 W' (w.heap.size + 1) (a.tmps.getD 7 undef) (l14 ++ be p.prof 2 ++ be (p.ext.length / 4) 2) := hv 11 (by decide)
            generalize a.tmps.getD 63 undef = y63 at ha
            generalize a.tmps.getD 64 undef = y64 at ha
            generalize a.tmps.getD 65 undef = y65 at ha
            generalize a.tmps.getD 66 undef = y66 at ha
            generalize a.tmps.getD 67 undef = y67 at ha
            generalize a.tmps.getD 68 undef = y68 at ha
            generalize a.tmps.getD 69 undef = y69 at ha
            generalize a.tmps.getD 70 undef = y70 at ha
            generalize a.tmps.getD 71 undef = y71 at ha
            generalize a.tmps.getD 72 undef = y72 at ha
            generalize a.tmps.getD 73 undef = y73 at ha
            generalize a.tmps.getD 7 undef = v17 at ha o17
            clear hv hold hsz hdf hf hI7 k6 k7 k8 hpay hext
            subst ha
            simp only [Act.put, List.setIfInBounds_toArray, List.set_cons_succ, List.set_cons_zero]
            obtain ⟨bV, ltV, zV, _⟩ := hI
            have k7 := (zV.cell 7).trans hcs7.out
            have hpay := hp.pay.on bV
            have hext := hp.ext.on bV
            have hb1 := Lib.hid (show (l14 ++ be p.prof 2 ++ be (p.ext.length / 4) 2).length + p.ext.length ≤ 140737488355328 by have := hln14.out; have := helh.out; simp [be_len]; omega)
            have hb2 := Lib.hid (show (l14 ++ be p.prof 2 ++ be (p.ext.length / 4) 2 ++ p.ext).length + p.pay.length ≤ 140737488355328 by have := hln14.out; have := helh.out; have := hplh.out; simp [be_len]; omega)
            have hB1 : w.heap.size + 1 ≤ W'.heap.size := ltV
            go_upto_region 19 with (at_builtin; with_reducible refine wpList_append8 rfl (.tmp 74) (.tmp 76) rfl rfl (w.heap.size + 1) v17 _ (by with_unfolding_all rfl) o17 W'.heap.size A2 _ c2 p.ext (by with_unfolding_all rfl) hext hb1.out hB1 ?_; intro v8 w8 ha8)
            have zE : Blk w8 w.heap.size 28 cs := (ha8.2.1.block _ ltV (fun e => by have := (World.ownsRow.lt o17 _ e.symm).1; omega)).trans zV
            have bE := ha8.below bV (Nat.le_of_lt ltV) o17 (Nat.le_succ _)
            have hB2 : w.heap.size + 1 ≤ w8.heap.size := Nat.le_trans ltV ha8.2.1.size
            have o18 := ha8.1
            clear ha8 k7 hpay hext zV bV o17
            have k8 := (zE.cell 8).trans hcs8.out
            have hpay := hp.pay.on bE
            go_wp2_with (at_builtin; with_reducible refine wpList_append8 rfl (.tmp 78) (.tmp 80) rfl rfl (w.heap.size + 1) v8 _ (by with_unfolding_all rfl) o18 w8.heap.size A3 _ c3 p.pay (by with_unfolding_all rfl) hpay hb2.out hB2 ?_; intro v9 w9 ha9)
            go_ret2
            have hb9 := ha9.below bE (Nat.le_trans (Nat.le_succ _) hB2) o18 (Nat.le_succ _)
            have eb : l14 ++ be p.prof 2 ++ be (p.ext.length / 4) 2 ++ p.ext ++ p.pay = p.bytes := by
              rw [← hl14h.out, ← hl10h.out, ← hl3h.out, hFh.out, hGh.out, hMh.out.symm]
              unfold Pkt.bytes
              simp [gah.out, hTh.out]
            have ho9 := ha9.1.base (Nat.le_succ w.heap.size)
            rw [eb] at ho9
            exact RBOut.yes h0 ho9 hb9
end Go.Proofs.Ytpcdmcaojgpfoaa
