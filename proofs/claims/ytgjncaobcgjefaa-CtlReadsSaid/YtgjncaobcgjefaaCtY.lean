/- Contracts: limelightref8.write, for each kind but 3. -/
import Derived.Test.YtgjncaobcgjefaaCtX
namespace Go.Proofs.Ytgjncaobcgjefaa
open Go.RowKit
set_option linter.unusedVariables false
set_option linter.unusedSimpArgs false
set_option maxRecDepth 20000

theorem ref8_in_c (s : ByteArray) (w : World) (hs : s.size ≤ 100) : Calls Try.prog 46 #[.string s, .int .u8 99] w (Still (.bool (inS8 s 99)) w) := ref8_in s 99 99 rfl w hs
theorem ref8_in_l (s : ByteArray) (w : World) (hs : s.size ≤ 100) : Calls Try.prog 46 #[.string s, .int .u8 108] w (Still (.bool (inS8 s 108)) w) := ref8_in s 108 108 rfl w hs
theorem ref8_in_p (s : ByteArray) (w : World) (hs : s.size ≤ 100) : Calls Try.prog 46 #[.string s, .int .u8 112] w (Still (.bool (inS8 s 112)) w) := ref8_in s 112 112 rfl w hs
theorem ref8_in_h (s : ByteArray) (w : World) (hs : s.size ≤ 100) : Calls Try.prog 46 #[.string s, .int .u8 104] w (Still (.bool (inS8 s 104)) w) := ref8_in s 104 104 rfl w hs
theorem ref8_in_k (s : ByteArray) (w : World) (hs : s.size ≤ 100) : Calls Try.prog 46 #[.string s, .int .u8 107] w (Still (.bool (inS8 s 107)) w) := ref8_in s 107 107 rfl w hs
theorem ref8_in_y (s : ByteArray) (w : World) (hs : s.size ≤ 100) : Calls Try.prog 46 #[.string s, .int .u8 121] w (Still (.bool (inS8 s 121)) w) := ref8_in s 121 121 rfl w hs
theorem ref8_in_e (s : ByteArray) (w : World) (hs : s.size ≤ 100) : Calls Try.prog 46 #[.string s, .int .u8 101] w (Still (.bool (inS8 s 101)) w) := ref8_in s 101 101 rfl w hs
def bytesK (k : UInt8) (b : List UInt8) : List UInt8 := k :: (be b.length 2 ++ b)
/-- Where a message is written: its cells, ahead of the row that grows. -/
structure WMem (w : World) (cs : Array Value) (v : Value) (l : List UInt8) (W : World) : Prop where
  blk : Blk W w.heap.size 25 cs
  own : Own8 W (w.heap.size + 1) v l
  below : Below w.heap.size w W
  size : w.heap.size + 1 ≤ W.heap.size
theorem WMem.to {w W W' : World} {cs : Array Value} {v v' : Value} {l l' : List UInt8} (h : WMem w cs v l W) (ho : Own8 W' (w.heap.size + 1) v' l') (hb : Below (w.heap.size + 1) W W') : WMem w cs v' l' W' := by
  have hs := h.size
  have hs' := hb.size
  exact ⟨h.blk.below hb (by omega), ho, h.below.trans (hb.mono (by omega)), by omega⟩
theorem WMem.on {w W W' : World} {cs : Array Value} {v : Value} {l : List UInt8} (h : WMem w cs v l W) (hb : Below W.heap.size W W') : WMem w cs v l W' := h.to (h.own.kept8 hb) (hb.mono h.size)
theorem one8_row (W : World) (n : Nat) (h : n < 256) : R8 (W.alloc (.cells #[.int .u8 (n : Int)] 5)) (W.alloc (.cells #[.int .u8 (n : Int)] 5)).heap.size (some ⟨W.heap.size, 0, none⟩) 1 1 [UInt8.ofNat n] :=
  lit_r8 [UInt8.ofNat n] _ 1 (0, 0) rfl (by simp [bv]; omega) W
theorem WMem.far {w W : World} {cs : Array Value} {v : Value} {l : List UInt8} (h : WMem w cs v l W) {g : Nat} (hg : W.heap.size ≤ g) : v.ownBlock ≠ some g := fun e => by
  have := (World.ownsRow.lt h.own g e).2
  omega
set_option maxHeartbeats 8000000 in
theorem write_1 (P : Nat) (hP : P ≤ 1099511627776) (A : Option Addr) (c : Nat) (w : World) : Calls Try.prog 29 #[.agg #[.int .i64 1, .int .i64 (P : Int), .slice A 0 c, .int .i64 0, .int .i64 0, .int .i64 0, .int .i64 0, .int .i64 0]] w (OwnOut w (bytesK 1 (fldB [(1, be P 8)]))) := by
  have ic : inS8 (hasS 1) 99 = true := by decide
  have il : inS8 (hasS 1) 108 = false := by decide
  have ip : inS8 (hasS 1) 112 = false := by decide
  have ih : inS8 (hasS 1) 104 = false := by decide
  have ik : inS8 (hasS 1) 107 = false := by decide
  have iy : inS8 (hasS 1) 121 = false := by decide
  have ie : inS8 (hasS 1) 101 = false := by decide
  have wP : (P : Int) % 18446744073709551616 = (P : Int) := by omega
  have yP : IntKind.u64.wrap (P : Int) = (P : Int) := by simp [IntKind.wrap, IntKind.signed, IntKind.bits]; omega
  have hM : WMem w #[.int .i64 1, .int .i64 (P : Int), .slice A 0 c, .int .i64 0, .int .i64 0, .int .i64 0, .int .i64 0, .int .i64 0] (.slice none 0 0) [] (w.alloc (.cells #[.int .i64 1, .int .i64 (P : Int), .slice A 0 c, .int .i64 0, .int .i64 0, .int .i64 0, .int .i64 0, .int .i64 0] 25)) := ⟨Blk.new _ _ _, own_nil _ _ _ _, below_alloc _ _, by simp⟩
  have kc := blk8 hM.blk
  have hs := hM.size
  go_enter Try.func29, Try.ntmps29
  go_upto_region 2 with (fail)
  generalize w.alloc (.cells #[.int .i64 1, .int .i64 (P : Int), .slice A 0 c, .int .i64 0, .int .i64 0, .int .i64 0, .int .i64 0, .int .i64 0] 25) = W0 at hM kc hs ⊢
  go_wp2_with fail
  refine (ref8_has 1 (by decide) (by decide) _).mono ?_
  rintro e W1 ⟨rfl, b1⟩
  have hM := hM.on b1
  clear b1 kc hs
  have kc := blk8 hM.blk
  have hs := hM.size
  go_wp2_with fail
  refine (ref8_in_c _ _ (hasS_size _)).mono ?_
  rintro e w' ⟨rfl, rfl⟩
  go_wp2_with fail
  refine (ref_put_own none 0 0 [] _ (R8.nil _ _ _ _) (by omega) P 8 (by omega) (by omega) (by omega)).mono ?_
  rintro e X2 ⟨vx, rfl, ox, bx⟩
  obtain ⟨Ax, cx, rfl, rx, fx⟩ := ox.r8n
  have hsX := bx.size
  have fv := fun ad h => hM.far (fx ad h).1
  have hM := hM.on bx
  rw [show ([] ++ be P 8 : List UInt8).length = 8 by simp [be_len]] at rx
  clear ox bx kc
  go_wp2_with fail
  refine (ref8_field X2 hM.own hM.size 1 1 rfl Ax 8 cx ([] ++ be P 8) rx (by omega) (by simp [fld, be_len]) fv).mono ?_
  rintro e W2 ⟨v2, rfl, o2, b2⟩
  have hM := hM.to o2 b2
  clear o2 b2 rx fx fv hs hsX
  have kc := blk8 hM.blk
  have hs := hM.size
  go_wp2_with fail
  go_loopw [3, 22] (fun bv i wr => v2 = bv ∧ Value.int .i64 0 = i ∧ W2 = wr) (fun _ _ _ => 0)
  case atStart => exact ⟨rfl, rfl, rfl⟩
  obtain ⟨rfl, rfl, rfl⟩ := hrel
  clear kc hs
  try simp only [List.nil_append] at hM
  have hl : fld 1 (be P 8) = fldB [(1, be P 8)] := by simp [fldB]
  obtain ⟨L, hL⟩ : ∃ L, L = fldB [(1, be P 8)] := ⟨_, rfl⟩
  have hn : L.length = 10 := by rw [hL]; simp [fldB, fld, be_len]
  rw [hl, ← hL] at hM
  clear hl
  rw [← hL]
  have HL := Lib.hid hL
  clear hL
  have kc := blk8 hM.blk
  have hs := hM.size
  obtain ⟨Ab, cb, hv, rb, fb⟩ := hM.own.r8n
  rw [hn] at rb hv
  subst hv
  have HN := Lib.hid hn
  have FB := Lib.hid fb
  clear hn fb
  go_wp2_with fail
  refine (ref8_in_p _ _ (hasS_size _)).mono ?_
  rintro e w' ⟨rfl, rfl⟩
  go_wp2_with fail
  refine (ref8_in_h _ _ (hasS_size _)).mono ?_
  rintro e w' ⟨rfl, rfl⟩
  go_wp2_with fail
  refine (ref8_in_k _ _ (hasS_size _)).mono ?_
  rintro e w' ⟨rfl, rfl⟩
  go_wp2_with fail
  refine (ref8_in_y _ _ (hasS_size _)).mono ?_
  rintro e w' ⟨rfl, rfl⟩
  go_wp2_with fail
  refine (ref8_in_e _ _ (hasS_size _)).mono ?_
  rintro e w' ⟨rfl, rfl⟩
  go_wp2_with fail
  refine (ref_put_own (some ⟨W2.heap.size, 0, none⟩) 1 1 [1] _ (lit_r8 [1] _ 1 (0, 0) rfl (by rfl) W2) (by omega) 10 2 (by omega) (by omega) (by omega)).mono ?_
  rintro e X ⟨vp, rfl, op, bp⟩
  have hbp := (below_alloc W2 (.cells #[.int .u8 1] 5)).trans (bp.mono (le_alloc (Nat.le_refl _) _))
  have op := op.mono8 (b' := w.heap.size) (Nat.le_trans (Nat.le_of_succ_le hs) (le_alloc (Nat.le_refl _) _))
  have rb := rb.on hbp
  have bX := hM.below.trans (hbp.mono (Nat.le_of_succ_le hs))
  have hX := Lib.hid bX.size
  have HLn := Lib.hid (show ([1] ++ be 10 2 : List UInt8).length + 10 ≤ 140737488355328 by simp [be_len])
  clear kc hs bp hbp hM
  go_wp2_with (at_builtin; ((with_reducible refine wpList_append8 rfl (.tmp 88) (.tmp 89) rfl rfl w.heap.size _ _ (by with_unfolding_all rfl) op _ _ 10 cb L (by with_unfolding_all rfl) rb HLn.out hX.out ?_); intro v9 w9 ha9))
  have b9 := ha9.below bX hX.out op (Nat.le_refl _)
  go_ret
  refine ⟨v9, rfl, ?_, b9⟩
  have e9 : bytesK 1 (fldB [(1, be P 8)]) = [1] ++ be 10 2 ++ L := by
    rw [← HL.out]
    unfold bytesK
    rw [HN.out]
    rfl
  rw [e9]
  exact ha9.1
set_option maxHeartbeats 8000000 in
theorem write_2  (A : Option Addr) (c : Nat) (w : World) : Calls Try.prog 29 #[.agg #[.int .i64 2, .int .i64 0, .slice A 0 c, .int .i64 0, .int .i64 0, .int .i64 0, .int .i64 0, .int .i64 0]] w (OwnOut w (bytesK 2 (fldB []))) := by
  have ic : inS8 (hasS 2) 99 = false := by decide
  have il : inS8 (hasS 2) 108 = false := by decide
  have ip : inS8 (hasS 2) 112 = false := by decide
  have ih : inS8 (hasS 2) 104 = false := by decide
  have ik : inS8 (hasS 2) 107 = false := by decide
  have iy : inS8 (hasS 2) 121 = false := by decide
  have ie : inS8 (hasS 2) 101 = false := by decide
  have hM : WMem w #[.int .i64 2, .int .i64 0, .slice A 0 c, .int .i64 0, .int .i64 0, .int .i64 0, .int .i64 0, .int .i64 0] (.slice none 0 0) [] (w.alloc (.cells #[.int .i64 2, .int .i64 0, .slice A 0 c, .int .i64 0, .int .i64 0, .int .i64 0, .int .i64 0, .int .i64 0] 25)) := ⟨Blk.new _ _ _, own_nil _ _ _ _, below_alloc _ _, by simp⟩
  have kc := blk8 hM.blk
  have hs := hM.size
  go_enter Try.func29, Try.ntmps29
  go_upto_region 2 with (fail)
  generalize w.alloc (.cells #[.int .i64 2, .int .i64 0, .slice A 0 c, .int .i64 0, .int .i64 0, .int .i64 0, .int .i64 0, .int .i64 0] 25) = W0 at hM kc hs ⊢
  go_wp2_with fail
  refine (ref8_has 2 (by decide) (by decide) _).mono ?_
  rintro e W1 ⟨rfl, b1⟩
  have hM := hM.on b1
  clear b1 kc hs
  have kc := blk8 hM.blk
  have hs := hM.size
  go_wp2_with fail
  refine (ref8_in_c _ _ (hasS_size _)).mono ?_
  rintro e w' ⟨rfl, rfl⟩
  go_wp2_with fail
  go_loopw [3, 22] (fun bv i wr => (Value.slice none 0 0) = bv ∧ Value.int .i64 0 = i ∧ W1 = wr) (fun _ _ _ => 0)
  case atStart => exact ⟨rfl, rfl, rfl⟩
  obtain ⟨rfl, rfl, rfl⟩ := hrel
  clear kc hs
  try simp only [List.nil_append] at hM
  have hl : [] = fldB [] := by simp [fldB]
  obtain ⟨L, hL⟩ : ∃ L, L = fldB [] := ⟨_, rfl⟩
  have hn : L.length = 0 := by rw [hL]; simp [fldB, fld, be_len]
  rw [hl, ← hL] at hM
  clear hl
  rw [← hL]
  have HL := Lib.hid hL
  clear hL
  have kc := blk8 hM.blk
  have hs := hM.size
  have rb : R8 W1 W1.heap.size none 0 0 L := by rw [HL.out]; exact R8.nil _ _ _ _
  have HN := Lib.hid hn
  clear hn
  go_wp2_with fail
  refine (ref8_in_p _ _ (hasS_size _)).mono ?_
  rintro e w' ⟨rfl, rfl⟩
  go_wp2_with fail
  refine (ref8_in_h _ _ (hasS_size _)).mono ?_
  rintro e w' ⟨rfl, rfl⟩
  go_wp2_with fail
  refine (ref8_in_k _ _ (hasS_size _)).mono ?_
  rintro e w' ⟨rfl, rfl⟩
  go_wp2_with fail
  refine (ref8_in_y _ _ (hasS_size _)).mono ?_
  rintro e w' ⟨rfl, rfl⟩
  go_wp2_with fail
  refine (ref8_in_e _ _ (hasS_size _)).mono ?_
  rintro e w' ⟨rfl, rfl⟩
  go_wp2_with fail
  refine (ref_put_own (some ⟨W1.heap.size, 0, none⟩) 1 1 [2] _ (lit_r8 [2] _ 1 (0, 0) rfl (by rfl) W1) (by omega) 0 2 (by omega) (by omega) (by omega)).mono ?_
  rintro e X ⟨vp, rfl, op, bp⟩
  have hbp := (below_alloc W1 (.cells #[.int .u8 2] 5)).trans (bp.mono (le_alloc (Nat.le_refl _) _))
  have op := op.mono8 (b' := w.heap.size) (Nat.le_trans (Nat.le_of_succ_le hs) (le_alloc (Nat.le_refl _) _))
  have rb := rb.on hbp
  have bX := hM.below.trans (hbp.mono (Nat.le_of_succ_le hs))
  have hX := Lib.hid bX.size
  have HLn := Lib.hid (show ([2] ++ be 0 2 : List UInt8).length + 0 ≤ 140737488355328 by simp [be_len])
  clear kc hs bp hbp hM
  go_wp2_with (at_builtin; ((with_reducible refine wpList_append8 rfl (.tmp 88) (.tmp 89) rfl rfl w.heap.size _ _ (by with_unfolding_all rfl) op _ _ 0 0 L (by with_unfolding_all rfl) rb HLn.out hX.out ?_); intro v9 w9 ha9))
  have b9 := ha9.below bX hX.out op (Nat.le_refl _)
  go_ret
  refine ⟨v9, rfl, ?_, b9⟩
  have e9 : bytesK 2 (fldB []) = [2] ++ be 0 2 ++ L := by
    rw [← HL.out]
    unfold bytesK
    rw [HN.out]
    rfl
  rw [e9]
  exact ha9.1
set_option maxHeartbeats 8000000 in
theorem write_4 (E H S : Nat) (hE : E ≤ 5) (hH : H ≤ 8192) (hS : S ≤ 3) (A : Option Addr) (c : Nat) (w : World) : Calls Try.prog 29 #[.agg #[.int .i64 4, .int .i64 0, .slice A 0 c, .int .i64 (E : Int), .int .i64 (H : Int), .int .i64 (S : Int), .int .i64 0, .int .i64 0]] w (OwnOut w (bytesK 4 (fldB [(3, [UInt8.ofNat E]), (4, be H 2), (5, [UInt8.ofNat S])]))) := by
  have ic : inS8 (hasS 4) 99 = false := by decide
  have il : inS8 (hasS 4) 108 = false := by decide
  have ip : inS8 (hasS 4) 112 = true := by decide
  have ih : inS8 (hasS 4) 104 = true := by decide
  have ik : inS8 (hasS 4) 107 = true := by decide
  have iy : inS8 (hasS 4) 121 = false := by decide
  have ie : inS8 (hasS 4) 101 = false := by decide
  have wE : (E : Int) % 256 = (E : Int) := by omega
  have yE : IntKind.u8.wrap (E : Int) = (E : Int) := by simp [IntKind.wrap, IntKind.signed, IntKind.bits]; omega
  have wH : (H : Int) % 18446744073709551616 = (H : Int) := by omega
  have yH : IntKind.u64.wrap (H : Int) = (H : Int) := by simp [IntKind.wrap, IntKind.signed, IntKind.bits]; omega
  have wS : (S : Int) % 256 = (S : Int) := by omega
  have yS : IntKind.u8.wrap (S : Int) = (S : Int) := by simp [IntKind.wrap, IntKind.signed, IntKind.bits]; omega
  have hM : WMem w #[.int .i64 4, .int .i64 0, .slice A 0 c, .int .i64 (E : Int), .int .i64 (H : Int), .int .i64 (S : Int), .int .i64 0, .int .i64 0] (.slice none 0 0) [] (w.alloc (.cells #[.int .i64 4, .int .i64 0, .slice A 0 c, .int .i64 (E : Int), .int .i64 (H : Int), .int .i64 (S : Int), .int .i64 0, .int .i64 0] 25)) := ⟨Blk.new _ _ _, own_nil _ _ _ _, below_alloc _ _, by simp⟩
  have kc := blk8 hM.blk
  have hs := hM.size
  go_enter Try.func29, Try.ntmps29
  go_upto_region 2 with (fail)
  generalize w.alloc (.cells #[.int .i64 4, .int .i64 0, .slice A 0 c, .int .i64 (E : Int), .int .i64 (H : Int), .int .i64 (S : Int), .int .i64 0, .int .i64 0] 25) = W0 at hM kc hs ⊢
  go_wp2_with fail
  refine (ref8_has 4 (by decide) (by decide) _).mono ?_
  rintro e W1 ⟨rfl, b1⟩
  have hM := hM.on b1
  clear b1 kc hs
  have kc := blk8 hM.blk
  have hs := hM.size
  go_wp2_with fail
  refine (ref8_in_c _ _ (hasS_size _)).mono ?_
  rintro e w' ⟨rfl, rfl⟩
  go_wp2_with fail
  go_loopw [3, 22] (fun bv i wr => (Value.slice none 0 0) = bv ∧ Value.int .i64 0 = i ∧ W1 = wr) (fun _ _ _ => 0)
  case atStart => exact ⟨rfl, rfl, rfl⟩
  obtain ⟨rfl, rfl, rfl⟩ := hrel
  clear kc hs
  have kc := blk8 hM.blk
  have hs := hM.size
  go_wp2_with fail
  refine (ref8_in_p _ _ (hasS_size _)).mono ?_
  rintro e w' ⟨rfl, rfl⟩
  go_wp2_with fail
  refine (ref8_field _ (hM.own.alloc _) (le_alloc hs _) 3 3 rfl _ 1 1 [UInt8.ofNat E] (one8_row _ E (by omega)) (by omega) (by simp [fld, be_len]) (fun ad h => by cases h; exact hM.far (Nat.le_refl _))).mono ?_
  rintro e W2 ⟨v2, rfl, o2, b2⟩
  have hM := hM.to o2 (((Below.refl _ _).alloc hs _).trans b2)
  clear o2 b2 kc hs
  have kc := blk8 hM.blk
  have hs := hM.size
  go_wp2_with fail
  refine (ref8_in_h _ _ (hasS_size _)).mono ?_
  rintro e w' ⟨rfl, rfl⟩
  go_wp2_with fail
  refine (ref_put_own none 0 0 [] _ (R8.nil _ _ _ _) (by omega) H 2 (by omega) (by omega) (by omega)).mono ?_
  rintro e X3 ⟨vx, rfl, ox, bx⟩
  obtain ⟨Ax, cx, rfl, rx, fx⟩ := ox.r8n
  have hsX := bx.size
  have fv := fun ad h => hM.far (fx ad h).1
  have hM := hM.on bx
  rw [show ([] ++ be H 2 : List UInt8).length = 2 by simp [be_len]] at rx
  clear ox bx kc
  go_wp2_with fail
  refine (ref8_field X3 hM.own hM.size 4 4 rfl Ax 2 cx ([] ++ be H 2) rx (by omega) (by simp [fld, be_len]) fv).mono ?_
  rintro e W3 ⟨v3, rfl, o3, b3⟩
  have hM := hM.to o3 b3
  clear o3 b3 rx fx fv hs hsX
  have kc := blk8 hM.blk
  have hs := hM.size
  go_wp2_with fail
  refine (ref8_in_k _ _ (hasS_size _)).mono ?_
  rintro e w' ⟨rfl, rfl⟩
  go_wp2_with fail
  refine (ref8_field _ (hM.own.alloc _) (le_alloc hs _) 5 5 rfl _ 1 1 [UInt8.ofNat S] (one8_row _ S (by omega)) (by omega) (by simp [fld, be_len]) (fun ad h => by cases h; exact hM.far (Nat.le_refl _))).mono ?_
  rintro e W4 ⟨v4, rfl, o4, b4⟩
  have hM := hM.to o4 (((Below.refl _ _).alloc hs _).trans b4)
  clear o4 b4 kc hs
  try simp only [List.nil_append] at hM
  have hl : ((fld 3 [UInt8.ofNat E] ++ fld 4 (be H 2)) ++ fld 5 [UInt8.ofNat S]) = fldB [(3, [UInt8.ofNat E]), (4, be H 2), (5, [UInt8.ofNat S])] := by simp [fldB]
  obtain ⟨L, hL⟩ : ∃ L, L = fldB [(3, [UInt8.ofNat E]), (4, be H 2), (5, [UInt8.ofNat S])] := ⟨_, rfl⟩
  have hn : L.length = 10 := by rw [hL]; simp [fldB, fld, be_len]
  rw [hl, ← hL] at hM
  clear hl
  rw [← hL]
  have HL := Lib.hid hL
  clear hL
  have kc := blk8 hM.blk
  have hs := hM.size
  obtain ⟨Ab, cb, hv, rb, fb⟩ := hM.own.r8n
  rw [hn] at rb hv
  subst hv
  have HN := Lib.hid hn
  have FB := Lib.hid fb
  clear hn fb
  go_wp2_with fail
  refine (ref8_in_y _ _ (hasS_size _)).mono ?_
  rintro e w' ⟨rfl, rfl⟩
  go_wp2_with fail
  refine (ref8_in_e _ _ (hasS_size _)).mono ?_
  rintro e w' ⟨rfl, rfl⟩
  go_wp2_with fail
  refine (ref_put_own (some ⟨W4.heap.size, 0, none⟩) 1 1 [4] _ (lit_r8 [4] _ 1 (0, 0) rfl (by rfl) W4) (by omega) 10 2 (by omega) (by omega) (by omega)).mono ?_
  rintro e X ⟨vp, rfl, op, bp⟩
  have hbp := (below_alloc W4 (.cells #[.int .u8 4] 5)).trans (bp.mono (le_alloc (Nat.le_refl _) _))
  have op := op.mono8 (b' := w.heap.size) (Nat.le_trans (Nat.le_of_succ_le hs) (le_alloc (Nat.le_refl _) _))
  have rb := rb.on hbp
  have bX := hM.below.trans (hbp.mono (Nat.le_of_succ_le hs))
  have hX := Lib.hid bX.size
  have HLn := Lib.hid (show ([4] ++ be 10 2 : List UInt8).length + 10 ≤ 140737488355328 by simp [be_len])
  clear kc hs bp hbp hM
  go_wp2_with (at_builtin; ((with_reducible refine wpList_append8 rfl (.tmp 88) (.tmp 89) rfl rfl w.heap.size _ _ (by with_unfolding_all rfl) op _ _ 10 cb L (by with_unfolding_all rfl) rb HLn.out hX.out ?_); intro v9 w9 ha9))
  have b9 := ha9.below bX hX.out op (Nat.le_refl _)
  go_ret
  refine ⟨v9, rfl, ?_, b9⟩
  have e9 : bytesK 4 (fldB [(3, [UInt8.ofNat E]), (4, be H 2), (5, [UInt8.ofNat S])]) = [4] ++ be 10 2 ++ L := by
    rw [← HL.out]
    unfold bytesK
    rw [HN.out]
    rfl
  rw [e9]
  exact ha9.1
set_option maxHeartbeats 8000000 in
theorem write_5 (E : Nat) (hE : E ≤ 5) (A : Option Addr) (c : Nat) (w : World) : Calls Try.prog 29 #[.agg #[.int .i64 5, .int .i64 0, .slice A 0 c, .int .i64 (E : Int), .int .i64 0, .int .i64 0, .int .i64 0, .int .i64 0]] w (OwnOut w (bytesK 5 (fldB [(3, [UInt8.ofNat E])]))) := by
  have ic : inS8 (hasS 5) 99 = false := by decide
  have il : inS8 (hasS 5) 108 = false := by decide
  have ip : inS8 (hasS 5) 112 = true := by decide
  have ih : inS8 (hasS 5) 104 = false := by decide
  have ik : inS8 (hasS 5) 107 = false := by decide
  have iy : inS8 (hasS 5) 121 = false := by decide
  have ie : inS8 (hasS 5) 101 = false := by decide
  have wE : (E : Int) % 256 = (E : Int) := by omega
  have yE : IntKind.u8.wrap (E : Int) = (E : Int) := by simp [IntKind.wrap, IntKind.signed, IntKind.bits]; omega
  have hM : WMem w #[.int .i64 5, .int .i64 0, .slice A 0 c, .int .i64 (E : Int), .int .i64 0, .int .i64 0, .int .i64 0, .int .i64 0] (.slice none 0 0) [] (w.alloc (.cells #[.int .i64 5, .int .i64 0, .slice A 0 c, .int .i64 (E : Int), .int .i64 0, .int .i64 0, .int .i64 0, .int .i64 0] 25)) := ⟨Blk.new _ _ _, own_nil _ _ _ _, below_alloc _ _, by simp⟩
  have kc := blk8 hM.blk
  have hs := hM.size
  go_enter Try.func29, Try.ntmps29
  go_upto_region 2 with (fail)
  generalize w.alloc (.cells #[.int .i64 5, .int .i64 0, .slice A 0 c, .int .i64 (E : Int), .int .i64 0, .int .i64 0, .int .i64 0, .int .i64 0] 25) = W0 at hM kc hs ⊢
  go_wp2_with fail
  refine (ref8_has 5 (by decide) (by decide) _).mono ?_
  rintro e W1 ⟨rfl, b1⟩
  have hM := hM.on b1
  clear b1 kc hs
  have kc := blk8 hM.blk
  have hs := hM.size
  go_wp2_with fail
  refine (ref8_in_c _ _ (hasS_size _)).mono ?_
  rintro e w' ⟨rfl, rfl⟩
  go_wp2_with fail
  go_loopw [3, 22] (fun bv i wr => (Value.slice none 0 0) = bv ∧ Value.int .i64 0 = i ∧ W1 = wr) (fun _ _ _ => 0)
  case atStart => exact ⟨rfl, rfl, rfl⟩
  obtain ⟨rfl, rfl, rfl⟩ := hrel
  clear kc hs
  have kc := blk8 hM.blk
  have hs := hM.size
  go_wp2_with fail
  refine (ref8_in_p _ _ (hasS_size _)).mono ?_
  rintro e w' ⟨rfl, rfl⟩
  go_wp2_with fail
  refine (ref8_field _ (hM.own.alloc _) (le_alloc hs _) 3 3 rfl _ 1 1 [UInt8.ofNat E] (one8_row _ E (by omega)) (by omega) (by simp [fld, be_len]) (fun ad h => by cases h; exact hM.far (Nat.le_refl _))).mono ?_
  rintro e W2 ⟨v2, rfl, o2, b2⟩
  have hM := hM.to o2 (((Below.refl _ _).alloc hs _).trans b2)
  clear o2 b2 kc hs
  try simp only [List.nil_append] at hM
  have hl : fld 3 [UInt8.ofNat E] = fldB [(3, [UInt8.ofNat E])] := by simp [fldB]
  obtain ⟨L, hL⟩ : ∃ L, L = fldB [(3, [UInt8.ofNat E])] := ⟨_, rfl⟩
  have hn : L.length = 3 := by rw [hL]; simp [fldB, fld, be_len]
  rw [hl, ← hL] at hM
  clear hl
  rw [← hL]
  have HL := Lib.hid hL
  clear hL
  have kc := blk8 hM.blk
  have hs := hM.size
  obtain ⟨Ab, cb, hv, rb, fb⟩ := hM.own.r8n
  rw [hn] at rb hv
  subst hv
  have HN := Lib.hid hn
  have FB := Lib.hid fb
  clear hn fb
  go_wp2_with fail
  refine (ref8_in_h _ _ (hasS_size _)).mono ?_
  rintro e w' ⟨rfl, rfl⟩
  go_wp2_with fail
  refine (ref8_in_k _ _ (hasS_size _)).mono ?_
  rintro e w' ⟨rfl, rfl⟩
  go_wp2_with fail
  refine (ref8_in_y _ _ (hasS_size _)).mono ?_
  rintro e w' ⟨rfl, rfl⟩
  go_wp2_with fail
  refine (ref8_in_e _ _ (hasS_size _)).mono ?_
  rintro e w' ⟨rfl, rfl⟩
  go_wp2_with fail
  refine (ref_put_own (some ⟨W2.heap.size, 0, none⟩) 1 1 [5] _ (lit_r8 [5] _ 1 (0, 0) rfl (by rfl) W2) (by omega) 3 2 (by omega) (by omega) (by omega)).mono ?_
  rintro e X ⟨vp, rfl, op, bp⟩
  have hbp := (below_alloc W2 (.cells #[.int .u8 5] 5)).trans (bp.mono (le_alloc (Nat.le_refl _) _))
  have op := op.mono8 (b' := w.heap.size) (Nat.le_trans (Nat.le_of_succ_le hs) (le_alloc (Nat.le_refl _) _))
  have rb := rb.on hbp
  have bX := hM.below.trans (hbp.mono (Nat.le_of_succ_le hs))
  have hX := Lib.hid bX.size
  have HLn := Lib.hid (show ([5] ++ be 3 2 : List UInt8).length + 3 ≤ 140737488355328 by simp [be_len])
  clear kc hs bp hbp hM
  go_wp2_with (at_builtin; ((with_reducible refine wpList_append8 rfl (.tmp 88) (.tmp 89) rfl rfl w.heap.size _ _ (by with_unfolding_all rfl) op _ _ 3 cb L (by with_unfolding_all rfl) rb HLn.out hX.out ?_); intro v9 w9 ha9))
  have b9 := ha9.below bX hX.out op (Nat.le_refl _)
  go_ret
  refine ⟨v9, rfl, ?_, b9⟩
  have e9 : bytesK 5 (fldB [(3, [UInt8.ofNat E])]) = [5] ++ be 3 2 ++ L := by
    rw [← HL.out]
    unfold bytesK
    rw [HN.out]
    rfl
  rw [e9]
  exact ha9.1
set_option maxHeartbeats 8000000 in
theorem write_6 (E H : Nat) (hE : E ≤ 5) (hH : H ≤ 8192) (A : Option Addr) (c : Nat) (w : World) : Calls Try.prog 29 #[.agg #[.int .i64 6, .int .i64 0, .slice A 0 c, .int .i64 (E : Int), .int .i64 (H : Int), .int .i64 0, .int .i64 0, .int .i64 0]] w (OwnOut w (bytesK 6 (fldB [(3, [UInt8.ofNat E]), (4, be H 2)]))) := by
  have ic : inS8 (hasS 6) 99 = false := by decide
  have il : inS8 (hasS 6) 108 = false := by decide
  have ip : inS8 (hasS 6) 112 = true := by decide
  have ih : inS8 (hasS 6) 104 = true := by decide
  have ik : inS8 (hasS 6) 107 = false := by decide
  have iy : inS8 (hasS 6) 121 = false := by decide
  have ie : inS8 (hasS 6) 101 = false := by decide
  have wE : (E : Int) % 256 = (E : Int) := by omega
  have yE : IntKind.u8.wrap (E : Int) = (E : Int) := by simp [IntKind.wrap, IntKind.signed, IntKind.bits]; omega
  have wH : (H : Int) % 18446744073709551616 = (H : Int) := by omega
  have yH : IntKind.u64.wrap (H : Int) = (H : Int) := by simp [IntKind.wrap, IntKind.signed, IntKind.bits]; omega
  have hM : WMem w #[.int .i64 6, .int .i64 0, .slice A 0 c, .int .i64 (E : Int), .int .i64 (H : Int), .int .i64 0, .int .i64 0, .int .i64 0] (.slice none 0 0) [] (w.alloc (.cells #[.int .i64 6, .int .i64 0, .slice A 0 c, .int .i64 (E : Int), .int .i64 (H : Int), .int .i64 0, .int .i64 0, .int .i64 0] 25)) := ⟨Blk.new _ _ _, own_nil _ _ _ _, below_alloc _ _, by simp⟩
  have kc := blk8 hM.blk
  have hs := hM.size
  go_enter Try.func29, Try.ntmps29
  go_upto_region 2 with (fail)
  generalize w.alloc (.cells #[.int .i64 6, .int .i64 0, .slice A 0 c, .int .i64 (E : Int), .int .i64 (H : Int), .int .i64 0, .int .i64 0, .int .i64 0] 25) = W0 at hM kc hs ⊢
  go_wp2_with fail
  refine (ref8_has 6 (by decide) (by decide) _).mono ?_
  rintro e W1 ⟨rfl, b1⟩
  have hM := hM.on b1
  clear b1 kc hs
  have kc := blk8 hM.blk
  have hs := hM.size
  go_wp2_with fail
  refine (ref8_in_c _ _ (hasS_size _)).mono ?_
  rintro e w' ⟨rfl, rfl⟩
  go_wp2_with fail
  go_loopw [3, 22] (fun bv i wr => (Value.slice none 0 0) = bv ∧ Value.int .i64 0 = i ∧ W1 = wr) (fun _ _ _ => 0)
  case atStart => exact ⟨rfl, rfl, rfl⟩
  obtain ⟨rfl, rfl, rfl⟩ := hrel
  clear kc hs
  have kc := blk8 hM.blk
  have hs := hM.size
  go_wp2_with fail
  refine (ref8_in_p _ _ (hasS_size _)).mono ?_
  rintro e w' ⟨rfl, rfl⟩
  go_wp2_with fail
  refine (ref8_field _ (hM.own.alloc _) (le_alloc hs _) 3 3 rfl _ 1 1 [UInt8.ofNat E] (one8_row _ E (by omega)) (by omega) (by simp [fld, be_len]) (fun ad h => by cases h; exact hM.far (Nat.le_refl _))).mono ?_
  rintro e W2 ⟨v2, rfl, o2, b2⟩
  have hM := hM.to o2 (((Below.refl _ _).alloc hs _).trans b2)
  clear o2 b2 kc hs
  have kc := blk8 hM.blk
  have hs := hM.size
  go_wp2_with fail
  refine (ref8_in_h _ _ (hasS_size _)).mono ?_
  rintro e w' ⟨rfl, rfl⟩
  go_wp2_with fail
  refine (ref_put_own none 0 0 [] _ (R8.nil _ _ _ _) (by omega) H 2 (by omega) (by omega) (by omega)).mono ?_
  rintro e X3 ⟨vx, rfl, ox, bx⟩
  obtain ⟨Ax, cx, rfl, rx, fx⟩ := ox.r8n
  have hsX := bx.size
  have fv := fun ad h => hM.far (fx ad h).1
  have hM := hM.on bx
  rw [show ([] ++ be H 2 : List UInt8).length = 2 by simp [be_len]] at rx
  clear ox bx kc
  go_wp2_with fail
  refine (ref8_field X3 hM.own hM.size 4 4 rfl Ax 2 cx ([] ++ be H 2) rx (by omega) (by simp [fld, be_len]) fv).mono ?_
  rintro e W3 ⟨v3, rfl, o3, b3⟩
  have hM := hM.to o3 b3
  clear o3 b3 rx fx fv hs hsX
  try simp only [List.nil_append] at hM
  have hl : (fld 3 [UInt8.ofNat E] ++ fld 4 (be H 2)) = fldB [(3, [UInt8.ofNat E]), (4, be H 2)] := by simp [fldB]
  obtain ⟨L, hL⟩ : ∃ L, L = fldB [(3, [UInt8.ofNat E]), (4, be H 2)] := ⟨_, rfl⟩
  have hn : L.length = 7 := by rw [hL]; simp [fldB, fld, be_len]
  rw [hl, ← hL] at hM
  clear hl
  rw [← hL]
  have HL := Lib.hid hL
  clear hL
  have kc := blk8 hM.blk
  have hs := hM.size
  obtain ⟨Ab, cb, hv, rb, fb⟩ := hM.own.r8n
  rw [hn] at rb hv
  subst hv
  have HN := Lib.hid hn
  have FB := Lib.hid fb
  clear hn fb
  go_wp2_with fail
  refine (ref8_in_k _ _ (hasS_size _)).mono ?_
  rintro e w' ⟨rfl, rfl⟩
  go_wp2_with fail
  refine (ref8_in_y _ _ (hasS_size _)).mono ?_
  rintro e w' ⟨rfl, rfl⟩
  go_wp2_with fail
  refine (ref8_in_e _ _ (hasS_size _)).mono ?_
  rintro e w' ⟨rfl, rfl⟩
  go_wp2_with fail
  refine (ref_put_own (some ⟨W3.heap.size, 0, none⟩) 1 1 [6] _ (lit_r8 [6] _ 1 (0, 0) rfl (by rfl) W3) (by omega) 7 2 (by omega) (by omega) (by omega)).mono ?_
  rintro e X ⟨vp, rfl, op, bp⟩
  have hbp := (below_alloc W3 (.cells #[.int .u8 6] 5)).trans (bp.mono (le_alloc (Nat.le_refl _) _))
  have op := op.mono8 (b' := w.heap.size) (Nat.le_trans (Nat.le_of_succ_le hs) (le_alloc (Nat.le_refl _) _))
  have rb := rb.on hbp
  have bX := hM.below.trans (hbp.mono (Nat.le_of_succ_le hs))
  have hX := Lib.hid bX.size
  have HLn := Lib.hid (show ([6] ++ be 7 2 : List UInt8).length + 7 ≤ 140737488355328 by simp [be_len])
  clear kc hs bp hbp hM
  go_wp2_with (at_builtin; ((with_reducible refine wpList_append8 rfl (.tmp 88) (.tmp 89) rfl rfl w.heap.size _ _ (by with_unfolding_all rfl) op _ _ 7 cb L (by with_unfolding_all rfl) rb HLn.out hX.out ?_); intro v9 w9 ha9))
  have b9 := ha9.below bX hX.out op (Nat.le_refl _)
  go_ret
  refine ⟨v9, rfl, ?_, b9⟩
  have e9 : bytesK 6 (fldB [(3, [UInt8.ofNat E]), (4, be H 2)]) = [6] ++ be 7 2 ++ L := by
    rw [← HL.out]
    unfold bytesK
    rw [HN.out]
    rfl
  rw [e9]
  exact ha9.1
set_option maxHeartbeats 8000000 in
theorem write_7 (E S : Nat) (hE : E ≤ 5) (hS : S ≤ 3) (A : Option Addr) (c : Nat) (w : World) : Calls Try.prog 29 #[.agg #[.int .i64 7, .int .i64 0, .slice A 0 c, .int .i64 (E : Int), .int .i64 0, .int .i64 (S : Int), .int .i64 0, .int .i64 0]] w (OwnOut w (bytesK 7 (fldB [(3, [UInt8.ofNat E]), (5, [UInt8.ofNat S])]))) := by
  have ic : inS8 (hasS 7) 99 = false := by decide
  have il : inS8 (hasS 7) 108 = false := by decide
  have ip : inS8 (hasS 7) 112 = true := by decide
  have ih : inS8 (hasS 7) 104 = false := by decide
  have ik : inS8 (hasS 7) 107 = true := by decide
  have iy : inS8 (hasS 7) 121 = false := by decide
  have ie : inS8 (hasS 7) 101 = false := by decide
  have wE : (E : Int) % 256 = (E : Int) := by omega
  have yE : IntKind.u8.wrap (E : Int) = (E : Int) := by simp [IntKind.wrap, IntKind.signed, IntKind.bits]; omega
  have wS : (S : Int) % 256 = (S : Int) := by omega
  have yS : IntKind.u8.wrap (S : Int) = (S : Int) := by simp [IntKind.wrap, IntKind.signed, IntKind.bits]; omega
  have hM : WMem w #[.int .i64 7, .int .i64 0, .slice A 0 c, .int .i64 (E : Int), .int .i64 0, .int .i64 (S : Int), .int .i64 0, .int .i64 0] (.slice none 0 0) [] (w.alloc (.cells #[.int .i64 7, .int .i64 0, .slice A 0 c, .int .i64 (E : Int), .int .i64 0, .int .i64 (S : Int), .int .i64 0, .int .i64 0] 25)) := ⟨Blk.new _ _ _, own_nil _ _ _ _, below_alloc _ _, by simp⟩
  have kc := blk8 hM.blk
  have hs := hM.size
  go_enter Try.func29, Try.ntmps29
  go_upto_region 2 with (fail)
  generalize w.alloc (.cells #[.int .i64 7, .int .i64 0, .slice A 0 c, .int .i64 (E : Int), .int .i64 0, .int .i64 (S : Int), .int .i64 0, .int .i64 0] 25) = W0 at hM kc hs ⊢
  go_wp2_with fail
  refine (ref8_has 7 (by decide) (by decide) _).mono ?_
  rintro e W1 ⟨rfl, b1⟩
  have hM := hM.on b1
  clear b1 kc hs
  have kc := blk8 hM.blk
  have hs := hM.size
  go_wp2_with fail
  refine (ref8_in_c _ _ (hasS_size _)).mono ?_
  rintro e w' ⟨rfl, rfl⟩
  go_wp2_with fail
  go_loopw [3, 22] (fun bv i wr => (Value.slice none 0 0) = bv ∧ Value.int .i64 0 = i ∧ W1 = wr) (fun _ _ _ => 0)
  case atStart => exact ⟨rfl, rfl, rfl⟩
  obtain ⟨rfl, rfl, rfl⟩ := hrel
  clear kc hs
  have kc := blk8 hM.blk
  have hs := hM.size
  go_wp2_with fail
  refine (ref8_in_p _ _ (hasS_size _)).mono ?_
  rintro e w' ⟨rfl, rfl⟩
  go_wp2_with fail
  refine (ref8_field _ (hM.own.alloc _) (le_alloc hs _) 3 3 rfl _ 1 1 [UInt8.ofNat E] (one8_row _ E (by omega)) (by omega) (by simp [fld, be_len]) (fun ad h => by cases h; exact hM.far (Nat.le_refl _))).mono ?_
  rintro e W2 ⟨v2, rfl, o2, b2⟩
  have hM := hM.to o2 (((Below.refl _ _).alloc hs _).trans b2)
  clear o2 b2 kc hs
  have kc := blk8 hM.blk
  have hs := hM.size
  go_wp2_with fail
  refine (ref8_in_h _ _ (hasS_size _)).mono ?_
  rintro e w' ⟨rfl, rfl⟩
  go_wp2_with fail
  refine (ref8_in_k _ _ (hasS_size _)).mono ?_
  rintro e w' ⟨rfl, rfl⟩
  go_wp2_with fail
  refine (ref8_field _ (hM.own.alloc _) (le_alloc hs _) 5 5 rfl _ 1 1 [UInt8.ofNat S] (one8_row _ S (by omega)) (by omega) (by simp [fld, be_len]) (fun ad h => by cases h; exact hM.far (Nat.le_refl _))).mono ?_
  rintro e W3 ⟨v3, rfl, o3, b3⟩
  have hM := hM.to o3 (((Below.refl _ _).alloc hs _).trans b3)
  clear o3 b3 kc hs
  try simp only [List.nil_append] at hM
  have hl : (fld 3 [UInt8.ofNat E] ++ fld 5 [UInt8.ofNat S]) = fldB [(3, [UInt8.ofNat E]), (5, [UInt8.ofNat S])] := by simp [fldB]
  obtain ⟨L, hL⟩ : ∃ L, L = fldB [(3, [UInt8.ofNat E]), (5, [UInt8.ofNat S])] := ⟨_, rfl⟩
  have hn : L.length = 6 := by rw [hL]; simp [fldB, fld, be_len]
  rw [hl, ← hL] at hM
  clear hl
  rw [← hL]
  have HL := Lib.hid hL
  clear hL
  have kc := blk8 hM.blk
  have hs := hM.size
  obtain ⟨Ab, cb, hv, rb, fb⟩ := hM.own.r8n
  rw [hn] at rb hv
  subst hv
  have HN := Lib.hid hn
  have FB := Lib.hid fb
  clear hn fb
  go_wp2_with fail
  refine (ref8_in_y _ _ (hasS_size _)).mono ?_
  rintro e w' ⟨rfl, rfl⟩
  go_wp2_with fail
  refine (ref8_in_e _ _ (hasS_size _)).mono ?_
  rintro e w' ⟨rfl, rfl⟩
  go_wp2_with fail
  refine (ref_put_own (some ⟨W3.heap.size, 0, none⟩) 1 1 [7] _ (lit_r8 [7] _ 1 (0, 0) rfl (by rfl) W3) (by omega) 6 2 (by omega) (by omega) (by omega)).mono ?_
  rintro e X ⟨vp, rfl, op, bp⟩
  have hbp := (below_alloc W3 (.cells #[.int .u8 7] 5)).trans (bp.mono (le_alloc (Nat.le_refl _) _))
  have op := op.mono8 (b' := w.heap.size) (Nat.le_trans (Nat.le_of_succ_le hs) (le_alloc (Nat.le_refl _) _))
  have rb := rb.on hbp
  have bX := hM.below.trans (hbp.mono (Nat.le_of_succ_le hs))
  have hX := Lib.hid bX.size
  have HLn := Lib.hid (show ([7] ++ be 6 2 : List UInt8).length + 6 ≤ 140737488355328 by simp [be_len])
  clear kc hs bp hbp hM
  go_wp2_with (at_builtin; ((with_reducible refine wpList_append8 rfl (.tmp 88) (.tmp 89) rfl rfl w.heap.size _ _ (by with_unfolding_all rfl) op _ _ 6 cb L (by with_unfolding_all rfl) rb HLn.out hX.out ?_); intro v9 w9 ha9))
  have b9 := ha9.below bX hX.out op (Nat.le_refl _)
  go_ret
  refine ⟨v9, rfl, ?_, b9⟩
  have e9 : bytesK 7 (fldB [(3, [UInt8.ofNat E]), (5, [UInt8.ofNat S])]) = [7] ++ be 6 2 ++ L := by
    rw [← HL.out]
    unfold bytesK
    rw [HN.out]
    rfl
  rw [e9]
  exact ha9.1
set_option maxHeartbeats 8000000 in
theorem write_8 (Y : Nat) (hY : Y ≤ 2) (A : Option Addr) (c : Nat) (w : World) : Calls Try.prog 29 #[.agg #[.int .i64 8, .int .i64 0, .slice A 0 c, .int .i64 0, .int .i64 0, .int .i64 0, .int .i64 (Y : Int), .int .i64 0]] w (OwnOut w (bytesK 8 (fldB [(6, [UInt8.ofNat Y])]))) := by
  have ic : inS8 (hasS 8) 99 = false := by decide
  have il : inS8 (hasS 8) 108 = false := by decide
  have ip : inS8 (hasS 8) 112 = false := by decide
  have ih : inS8 (hasS 8) 104 = false := by decide
  have ik : inS8 (hasS 8) 107 = false := by decide
  have iy : inS8 (hasS 8) 121 = true := by decide
  have ie : inS8 (hasS 8) 101 = false := by decide
  have wY : (Y : Int) % 256 = (Y : Int) := by omega
  have yY : IntKind.u8.wrap (Y : Int) = (Y : Int) := by simp [IntKind.wrap, IntKind.signed, IntKind.bits]; omega
  have hM : WMem w #[.int .i64 8, .int .i64 0, .slice A 0 c, .int .i64 0, .int .i64 0, .int .i64 0, .int .i64 (Y : Int), .int .i64 0] (.slice none 0 0) [] (w.alloc (.cells #[.int .i64 8, .int .i64 0, .slice A 0 c, .int .i64 0, .int .i64 0, .int .i64 0, .int .i64 (Y : Int), .int .i64 0] 25)) := ⟨Blk.new _ _ _, own_nil _ _ _ _, below_alloc _ _, by simp⟩
  have kc := blk8 hM.blk
  have hs := hM.size
  go_enter Try.func29, Try.ntmps29
  go_upto_region 2 with (fail)
  generalize w.alloc (.cells #[.int .i64 8, .int .i64 0, .slice A 0 c, .int .i64 0, .int .i64 0, .int .i64 0, .int .i64 (Y : Int), .int .i64 0] 25) = W0 at hM kc hs ⊢
  go_wp2_with fail
  refine (ref8_has 8 (by decide) (by decide) _).mono ?_
  rintro e W1 ⟨rfl, b1⟩
  have hM := hM.on b1
  clear b1 kc hs
  have kc := blk8 hM.blk
  have hs := hM.size
  go_wp2_with fail
  refine (ref8_in_c _ _ (hasS_size _)).mono ?_
  rintro e w' ⟨rfl, rfl⟩
  go_wp2_with fail
  go_loopw [3, 22] (fun bv i wr => (Value.slice none 0 0) = bv ∧ Value.int .i64 0 = i ∧ W1 = wr) (fun _ _ _ => 0)
  case atStart => exact ⟨rfl, rfl, rfl⟩
  obtain ⟨rfl, rfl, rfl⟩ := hrel
  clear kc hs
  have kc := blk8 hM.blk
  have hs := hM.size
  go_wp2_with fail
  refine (ref8_in_p _ _ (hasS_size _)).mono ?_
  rintro e w' ⟨rfl, rfl⟩
  go_wp2_with fail
  refine (ref8_in_h _ _ (hasS_size _)).mono ?_
  rintro e w' ⟨rfl, rfl⟩
  go_wp2_with fail
  refine (ref8_in_k _ _ (hasS_size _)).mono ?_
  rintro e w' ⟨rfl, rfl⟩
  go_wp2_with fail
  refine (ref8_in_y _ _ (hasS_size _)).mono ?_
  rintro e w' ⟨rfl, rfl⟩
  go_wp2_with fail
  refine (ref8_field _ (hM.own.alloc _) (le_alloc hs _) 6 6 rfl _ 1 1 [UInt8.ofNat Y] (one8_row _ Y (by omega)) (by omega) (by simp [fld, be_len]) (fun ad h => by cases h; exact hM.far (Nat.le_refl _))).mono ?_
  rintro e W2 ⟨v2, rfl, o2, b2⟩
  have hM := hM.to o2 (((Below.refl _ _).alloc hs _).trans b2)
  clear o2 b2 kc hs
  try simp only [List.nil_append] at hM
  have hl : fld 6 [UInt8.ofNat Y] = fldB [(6, [UInt8.ofNat Y])] := by simp [fldB]
  obtain ⟨L, hL⟩ : ∃ L, L = fldB [(6, [UInt8.ofNat Y])] := ⟨_, rfl⟩
  have hn : L.length = 3 := by rw [hL]; simp [fldB, fld, be_len]
  rw [hl, ← hL] at hM
  clear hl
  rw [← hL]
  have HL := Lib.hid hL
  clear hL
  have kc := blk8 hM.blk
  have hs := hM.size
  obtain ⟨Ab, cb, hv, rb, fb⟩ := hM.own.r8n
  rw [hn] at rb hv
  subst hv
  have HN := Lib.hid hn
  have FB := Lib.hid fb
  clear hn fb
  go_wp2_with fail
  refine (ref8_in_e _ _ (hasS_size _)).mono ?_
  rintro e w' ⟨rfl, rfl⟩
  go_wp2_with fail
  refine (ref_put_own (some ⟨W2.heap.size, 0, none⟩) 1 1 [8] _ (lit_r8 [8] _ 1 (0, 0) rfl (by rfl) W2) (by omega) 3 2 (by omega) (by omega) (by omega)).mono ?_
  rintro e X ⟨vp, rfl, op, bp⟩
  have hbp := (below_alloc W2 (.cells #[.int .u8 8] 5)).trans (bp.mono (le_alloc (Nat.le_refl _) _))
  have op := op.mono8 (b' := w.heap.size) (Nat.le_trans (Nat.le_of_succ_le hs) (le_alloc (Nat.le_refl _) _))
  have rb := rb.on hbp
  have bX := hM.below.trans (hbp.mono (Nat.le_of_succ_le hs))
  have hX := Lib.hid bX.size
  have HLn := Lib.hid (show ([8] ++ be 3 2 : List UInt8).length + 3 ≤ 140737488355328 by simp [be_len])
  clear kc hs bp hbp hM
  go_wp2_with (at_builtin; ((with_reducible refine wpList_append8 rfl (.tmp 88) (.tmp 89) rfl rfl w.heap.size _ _ (by with_unfolding_all rfl) op _ _ 3 cb L (by with_unfolding_all rfl) rb HLn.out hX.out ?_); intro v9 w9 ha9))
  have b9 := ha9.below bX hX.out op (Nat.le_refl _)
  go_ret
  refine ⟨v9, rfl, ?_, b9⟩
  have e9 : bytesK 8 (fldB [(6, [UInt8.ofNat Y])]) = [8] ++ be 3 2 ++ L := by
    rw [← HL.out]
    unfold bytesK
    rw [HN.out]
    rfl
  rw [e9]
  exact ha9.1
set_option maxHeartbeats 8000000 in
theorem write_9 (Y : Nat) (hY : Y ≤ 2) (A : Option Addr) (c : Nat) (w : World) : Calls Try.prog 29 #[.agg #[.int .i64 9, .int .i64 0, .slice A 0 c, .int .i64 0, .int .i64 0, .int .i64 0, .int .i64 (Y : Int), .int .i64 0]] w (OwnOut w (bytesK 9 (fldB [(6, [UInt8.ofNat Y])]))) := by
  have ic : inS8 (hasS 9) 99 = false := by decide
  have il : inS8 (hasS 9) 108 = false := by decide
  have ip : inS8 (hasS 9) 112 = false := by decide
  have ih : inS8 (hasS 9) 104 = false := by decide
  have ik : inS8 (hasS 9) 107 = false := by decide
  have iy : inS8 (hasS 9) 121 = true := by decide
  have ie : inS8 (hasS 9) 101 = false := by decide
  have wY : (Y : Int) % 256 = (Y : Int) := by omega
  have yY : IntKind.u8.wrap (Y : Int) = (Y : Int) := by simp [IntKind.wrap, IntKind.signed, IntKind.bits]; omega
  have hM : WMem w #[.int .i64 9, .int .i64 0, .slice A 0 c, .int .i64 0, .int .i64 0, .int .i64 0, .int .i64 (Y : Int), .int .i64 0] (.slice none 0 0) [] (w.alloc (.cells #[.int .i64 9, .int .i64 0, .slice A 0 c, .int .i64 0, .int .i64 0, .int .i64 0, .int .i64 (Y : Int), .int .i64 0] 25)) := ⟨Blk.new _ _ _, own_nil _ _ _ _, below_alloc _ _, by simp⟩
  have kc := blk8 hM.blk
  have hs := hM.size
  go_enter Try.func29, Try.ntmps29
  go_upto_region 2 with (fail)
  generalize w.alloc (.cells #[.int .i64 9, .int .i64 0, .slice A 0 c, .int .i64 0, .int .i64 0, .int .i64 0, .int .i64 (Y : Int), .int .i64 0] 25) = W0 at hM kc hs ⊢
  go_wp2_with fail
  refine (ref8_has 9 (by decide) (by decide) _).mono ?_
  rintro e W1 ⟨rfl, b1⟩
  have hM := hM.on b1
  clear b1 kc hs
  have kc := blk8 hM.blk
  have hs := hM.size
  go_wp2_with fail
  refine (ref8_in_c _ _ (hasS_size _)).mono ?_
  rintro e w' ⟨rfl, rfl⟩
  go_wp2_with fail
  go_loopw [3, 22] (fun bv i wr => (Value.slice none 0 0) = bv ∧ Value.int .i64 0 = i ∧ W1 = wr) (fun _ _ _ => 0)
  case atStart => exact ⟨rfl, rfl, rfl⟩
  obtain ⟨rfl, rfl, rfl⟩ := hrel
  clear kc hs
  have kc := blk8 hM.blk
  have hs := hM.size
  go_wp2_with fail
  refine (ref8_in_p _ _ (hasS_size _)).mono ?_
  rintro e w' ⟨rfl, rfl⟩
  go_wp2_with fail
  refine (ref8_in_h _ _ (hasS_size _)).mono ?_
  rintro e w' ⟨rfl, rfl⟩
  go_wp2_with fail
  refine (ref8_in_k _ _ (hasS_size _)).mono ?_
  rintro e w' ⟨rfl, rfl⟩
  go_wp2_with fail
  refine (ref8_in_y _ _ (hasS_size _)).mono ?_
  rintro e w' ⟨rfl, rfl⟩
  go_wp2_with fail
  refine (ref8_field _ (hM.own.alloc _) (le_alloc hs _) 6 6 rfl _ 1 1 [UInt8.ofNat Y] (one8_row _ Y (by omega)) (by omega) (by simp [fld, be_len]) (fun ad h => by cases h; exact hM.far (Nat.le_refl _))).mono ?_
  rintro e W2 ⟨v2, rfl, o2, b2⟩
  have hM := hM.to o2 (((Below.refl _ _).alloc hs _).trans b2)
  clear o2 b2 kc hs
  try simp only [List.nil_append] at hM
  have hl : fld 6 [UInt8.ofNat Y] = fldB [(6, [UInt8.ofNat Y])] := by simp [fldB]
  obtain ⟨L, hL⟩ : ∃ L, L = fldB [(6, [UInt8.ofNat Y])] := ⟨_, rfl⟩
  have hn : L.length = 3 := by rw [hL]; simp [fldB, fld, be_len]
  rw [hl, ← hL] at hM
  clear hl
  rw [← hL]
  have HL := Lib.hid hL
  clear hL
  have kc := blk8 hM.blk
  have hs := hM.size
  obtain ⟨Ab, cb, hv, rb, fb⟩ := hM.own.r8n
  rw [hn] at rb hv
  subst hv
  have HN := Lib.hid hn
  have FB := Lib.hid fb
  clear hn fb
  go_wp2_with fail
  refine (ref8_in_e _ _ (hasS_size _)).mono ?_
  rintro e w' ⟨rfl, rfl⟩
  go_wp2_with fail
  refine (ref_put_own (some ⟨W2.heap.size, 0, none⟩) 1 1 [9] _ (lit_r8 [9] _ 1 (0, 0) rfl (by rfl) W2) (by omega) 3 2 (by omega) (by omega) (by omega)).mono ?_
  rintro e X ⟨vp, rfl, op, bp⟩
  have hbp := (below_alloc W2 (.cells #[.int .u8 9] 5)).trans (bp.mono (le_alloc (Nat.le_refl _) _))
  have op := op.mono8 (b' := w.heap.size) (Nat.le_trans (Nat.le_of_succ_le hs) (le_alloc (Nat.le_refl _) _))
  have rb := rb.on hbp
  have bX := hM.below.trans (hbp.mono (Nat.le_of_succ_le hs))
  have hX := Lib.hid bX.size
  have HLn := Lib.hid (show ([9] ++ be 3 2 : List UInt8).length + 3 ≤ 140737488355328 by simp [be_len])
  clear kc hs bp hbp hM
  go_wp2_with (at_builtin; ((with_reducible refine wpList_append8 rfl (.tmp 88) (.tmp 89) rfl rfl w.heap.size _ _ (by with_unfolding_all rfl) op _ _ 3 cb L (by with_unfolding_all rfl) rb HLn.out hX.out ?_); intro v9 w9 ha9))
  have b9 := ha9.below bX hX.out op (Nat.le_refl _)
  go_ret
  refine ⟨v9, rfl, ?_, b9⟩
  have e9 : bytesK 9 (fldB [(6, [UInt8.ofNat Y])]) = [9] ++ be 3 2 ++ L := by
    rw [← HL.out]
    unfold bytesK
    rw [HN.out]
    rfl
  rw [e9]
  exact ha9.1
set_option maxHeartbeats 8000000 in
theorem write_10 (G : Nat) (hG : G ≤ 255) (A : Option Addr) (c : Nat) (w : World) : Calls Try.prog 29 #[.agg #[.int .i64 10, .int .i64 0, .slice A 0 c, .int .i64 0, .int .i64 0, .int .i64 0, .int .i64 0, .int .i64 (G : Int)]] w (OwnOut w (bytesK 10 (fldB [(7, [UInt8.ofNat G])]))) := by
  have ic : inS8 (hasS 10) 99 = false := by decide
  have il : inS8 (hasS 10) 108 = false := by decide
  have ip : inS8 (hasS 10) 112 = false := by decide
  have ih : inS8 (hasS 10) 104 = false := by decide
  have ik : inS8 (hasS 10) 107 = false := by decide
  have iy : inS8 (hasS 10) 121 = false := by decide
  have ie : inS8 (hasS 10) 101 = true := by decide
  have wG : (G : Int) % 256 = (G : Int) := by omega
  have yG : IntKind.u8.wrap (G : Int) = (G : Int) := by simp [IntKind.wrap, IntKind.signed, IntKind.bits]; omega
  have hM : WMem w #[.int .i64 10, .int .i64 0, .slice A 0 c, .int .i64 0, .int .i64 0, .int .i64 0, .int .i64 0, .int .i64 (G : Int)] (.slice none 0 0) [] (w.alloc (.cells #[.int .i64 10, .int .i64 0, .slice A 0 c, .int .i64 0, .int .i64 0, .int .i64 0, .int .i64 0, .int .i64 (G : Int)] 25)) := ⟨Blk.new _ _ _, own_nil _ _ _ _, below_alloc _ _, by simp⟩
  have kc := blk8 hM.blk
  have hs := hM.size
  go_enter Try.func29, Try.ntmps29
  go_upto_region 2 with (fail)
  generalize w.alloc (.cells #[.int .i64 10, .int .i64 0, .slice A 0 c, .int .i64 0, .int .i64 0, .int .i64 0, .int .i64 0, .int .i64 (G : Int)] 25) = W0 at hM kc hs ⊢
  go_wp2_with fail
  refine (ref8_has 10 (by decide) (by decide) _).mono ?_
  rintro e W1 ⟨rfl, b1⟩
  have hM := hM.on b1
  clear b1 kc hs
  have kc := blk8 hM.blk
  have hs := hM.size
  go_wp2_with fail
  refine (ref8_in_c _ _ (hasS_size _)).mono ?_
  rintro e w' ⟨rfl, rfl⟩
  go_wp2_with fail
  go_loopw [3, 22] (fun bv i wr => (Value.slice none 0 0) = bv ∧ Value.int .i64 0 = i ∧ W1 = wr) (fun _ _ _ => 0)
  case atStart => exact ⟨rfl, rfl, rfl⟩
  obtain ⟨rfl, rfl, rfl⟩ := hrel
  clear kc hs
  have kc := blk8 hM.blk
  have hs := hM.size
  go_wp2_with fail
  refine (ref8_in_p _ _ (hasS_size _)).mono ?_
  rintro e w' ⟨rfl, rfl⟩
  go_wp2_with fail
  refine (ref8_in_h _ _ (hasS_size _)).mono ?_
  rintro e w' ⟨rfl, rfl⟩
  go_wp2_with fail
  refine (ref8_in_k _ _ (hasS_size _)).mono ?_
  rintro e w' ⟨rfl, rfl⟩
  go_wp2_with fail
  refine (ref8_in_y _ _ (hasS_size _)).mono ?_
  rintro e w' ⟨rfl, rfl⟩
  go_wp2_with fail
  refine (ref8_in_e _ _ (hasS_size _)).mono ?_
  rintro e w' ⟨rfl, rfl⟩
  go_wp2_with fail
  refine (ref8_field _ (hM.own.alloc _) (le_alloc hs _) 7 7 rfl _ 1 1 [UInt8.ofNat G] (one8_row _ G (by omega)) (by omega) (by simp [fld, be_len]) (fun ad h => by cases h; exact hM.far (Nat.le_refl _))).mono ?_
  rintro e W2 ⟨v2, rfl, o2, b2⟩
  have hM := hM.to o2 (((Below.refl _ _).alloc hs _).trans b2)
  clear o2 b2 kc hs
  try simp only [List.nil_append] at hM
  have hl : fld 7 [UInt8.ofNat G] = fldB [(7, [UInt8.ofNat G])] := by simp [fldB]
  obtain ⟨L, hL⟩ : ∃ L, L = fldB [(7, [UInt8.ofNat G])] := ⟨_, rfl⟩
  have hn : L.length = 3 := by rw [hL]; simp [fldB, fld, be_len]
  rw [hl, ← hL] at hM
  clear hl
  rw [← hL]
  have HL := Lib.hid hL
  clear hL
  have kc := blk8 hM.blk
  have hs := hM.size
  obtain ⟨Ab, cb, hv, rb, fb⟩ := hM.own.r8n
  rw [hn] at rb hv
  subst hv
  have HN := Lib.hid hn
  have FB := Lib.hid fb
  clear hn fb
  go_wp2_with fail
  refine (ref_put_own (some ⟨W2.heap.size, 0, none⟩) 1 1 [10] _ (lit_r8 [10] _ 1 (0, 0) rfl (by rfl) W2) (by omega) 3 2 (by omega) (by omega) (by omega)).mono ?_
  rintro e X ⟨vp, rfl, op, bp⟩
  have hbp := (below_alloc W2 (.cells #[.int .u8 10] 5)).trans (bp.mono (le_alloc (Nat.le_refl _) _))
  have op := op.mono8 (b' := w.heap.size) (Nat.le_trans (Nat.le_of_succ_le hs) (le_alloc (Nat.le_refl _) _))
  have rb := rb.on hbp
  have bX := hM.below.trans (hbp.mono (Nat.le_of_succ_le hs))
  have hX := Lib.hid bX.size
  have HLn := Lib.hid (show ([10] ++ be 3 2 : List UInt8).length + 3 ≤ 140737488355328 by simp [be_len])
  clear kc hs bp hbp hM
  go_wp2_with (at_builtin; ((with_reducible refine wpList_append8 rfl (.tmp 88) (.tmp 89) rfl rfl w.heap.size _ _ (by with_unfolding_all rfl) op _ _ 3 cb L (by with_unfolding_all rfl) rb HLn.out hX.out ?_); intro v9 w9 ha9))
  have b9 := ha9.below bX hX.out op (Nat.le_refl _)
  go_ret
  refine ⟨v9, rfl, ?_, b9⟩
  have e9 : bytesK 10 (fldB [(7, [UInt8.ofNat G])]) = [10] ++ be 3 2 ++ L := by
    rw [← HL.out]
    unfold bytesK
    rw [HN.out]
    rfl
  rw [e9]
  exact ha9.1
end Go.Proofs.Ytgjncaobcgjefaa
