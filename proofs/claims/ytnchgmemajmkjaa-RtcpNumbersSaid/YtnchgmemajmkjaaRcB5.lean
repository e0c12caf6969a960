/- Contracts: limelightref6.body: Remb. -/
import Derived.Test.YtnchgmemajmkjaaRcB
namespace Go.Proofs.Ytnchgmemajmkjaa
open Go.RowKit
set_option linter.unusedVariables false
set_option linter.unusedSimpArgs false
set_option maxRecDepth 20000

/-- Remb's word. -/
def rembW (n rate : Nat) : Nat := n * 16777216 + pkE rate 18 * 262144 + pkM rate 18
theorem remb_or {n rate : Nat} (hn : n ≤ 16) (hr : rate < 18446744073709551616) : bits .or .u32 (bits .or .u32 ((n : Int) * 16777216) ((pkE rate 18 : Int) * 262144)) (pkM rate 18 : Int) = (rembW n rate : Int) ∧ rembW n rate < 4294967296 ∧ pkE rate 18 ≤ 63 ∧ pkM rate 18 < 262144 := by
  have h1 := pkE_le (n := rate) (b := 18) (by omega) (by omega)
  have h2 := pkM_lt rate 18
  unfold rembW
  generalize pkE rate 18 = E at *
  generalize pkM rate 18 = M at *
  rw [show ((n : Int) * 16777216) = ((n * 16777216 : Nat) : Int) by simp, show ((E : Int) * 262144) = ((E * 262144 : Nat) : Int) by simp, or32 24 _ _ (by omega) (by omega) (by omega) (by omega), or32 18 _ _ (by omega) (by omega) (by omega) (by omega)]
  refine ⟨by omega, by omega, h1, by omega⟩
set_option maxHeartbeats 4000000 in
theorem body_5 (x : Rv) (w : World) (hx : IsR w w.heap.size x) (hk : x.r.kind = 5) (hle : x.r.abouts.length ≤ 16) : Calls Try.prog 53 #[x.val] w (BodyOut w x.r) := by
  have htc : x.r.tc = (206, 15) := by unfold Rep.tc; rw [hk]; rfl
  have htl : x.r.tail = be x.r.src 4 ++ (be 0 4 ++ ([82, 69, 77, 66] ++ (be (rembW x.r.abouts.length x.r.rate) 4 ++ wB x.r.abouts))) := by unfold Rep.tail; rw [hk]; rfl
  have HTC := Lib.hid htc
  have HTL := Lib.hid htl
  clear htc htl
  obtain ⟨⟨kind, src, about, tups, abouts, nums, rate, ty, count, body⟩, At, ct, Aa, ca, An, cn, Ab, cb⟩ := x
  obtain ⟨t1, t2, t3, t4, kinds⟩ := hx
  obtain ⟨h1, h2, h3, h4, h5, h6, h7, h8, h9, h10⟩ := kinds
  simp only at hk h1 h2 h3 h4 h5 h6 h7 h8 h9 h10 t1 t2 t3 t4
  subst hk
  have hb : Below w.heap.size w (w.alloc (.cells #[.int .i64 5, .int .u32 (src : Int), .int .u32 (about : Int), .slice At tups.length ct, .slice Aa abouts.length ca, .slice An nums.length cn, .int .u64 (rate : Int), .int .i64 ty, .int .i64 count, .slice Ab body.length cb] 33)) := (Below.refl _ w).alloc (Nat.le_refl _) _
  have hZ : Blk (w.alloc (.cells #[.int .i64 5, .int .u32 (src : Int), .int .u32 (about : Int), .slice At tups.length ct, .slice Aa abouts.length ca, .slice An nums.length cn, .int .u64 (rate : Int), .int .i64 ty, .int .i64 count, .slice Ab body.length cb] 33)) w.heap.size 33 #[.int .i64 5, .int .u32 (src : Int), .int .u32 (about : Int), .slice At tups.length ct, .slice Aa abouts.length ca, .slice An nums.length cn, .int .u64 (rate : Int), .int .i64 ty, .int .i64 count, .slice Ab body.length cb] := Blk.new _ _ _
  have hsz : (w.alloc (.cells #[.int .i64 5, .int .u32 (src : Int), .int .u32 (about : Int), .slice At tups.length ct, .slice Aa abouts.length ca, .slice An nums.length cn, .int .u64 (rate : Int), .int .i64 ty, .int .i64 count, .slice Ab body.length cb] 33)).heap.size = w.heap.size + 1 := by simp
  simp only [Rv.val, Rv.cells]
  have hle : abouts.length ≤ 16 := hle
  have t2 := t2.on hb
  have hle' : (abouts.length : Int) ≤ 16 := by omega
  obtain ⟨or, wlt, e63, m18⟩ := remb_or hle h4
  have hpk : ∀ W, Calls Try.prog 49 #[.int .u64 (rate : Int), .int .i64 18] W (AnsS (.tuple #[.int .i64 (pkE rate 18 : Int), .int .u32 (pkM rate 18 : Int)]) W) := fun W => ref_pack_s rate 18 W h4
  have OR := Lib.hid or
  clear t1 t3 t4 h3 h5 h6 h7 h8 h9 h10 or h4
  generalize hwd : rembW abouts.length rate = wd at OR wlt
  have HWD := Lib.hid hwd
  clear hwd
  generalize pkE rate 18 = E at *
  generalize pkM rate 18 = M at *
  go_enter Try.func53, Try.ntmps53
  go_upto_region 23 with (fail)
  generalize (w.alloc (.cells #[.int .i64 5, .int .u32 (src : Int), .int .u32 (about : Int), .slice At tups.length ct, .slice Aa abouts.length ca, .slice An nums.length cn, .int .u64 (rate : Int), .int .i64 ty, .int .i64 count, .slice Ab body.length cb] 33)) = V at hb hZ hsz t2 ⊢
  obtain ⟨y0, y1, y2, y3, y4, y5, y6, y7, y8, y9⟩ := blk10 hZ
  have HS := Lib.hid hsz
  have hlt : w.heap.size < V.heap.size := by omega
  clear hsz y0 y2 y3 y5 y7 y8 y9
  go_wp2_with fail
  ((with_reducible refine (hpk _).mono ?_); rintro e w3 ⟨rfl, rfl⟩)
  go_wp2_with fail
  ((with_reducible refine (words2 src 0 (src : Int) (0 : Int) rfl rfl h2 (by omega) V _ rfl).mono ?_); rintro e w1 ⟨v1, rfl, o1, b1⟩)
  have b2 : Below V.heap.size V w1 := ((Below.refl _ V).alloc (Nat.le_refl _) _).trans (b1.mono (by simp))
  have o1 := own8_base o1 (b' := V.heap.size) (by simp)
  have hl1 : (wB [src, 0]).length + [82, 69, 77, (66 : UInt8)].length ≤ 1000000 := by rw [wB_len]; simp
  have HL1 := Lib.hid hl1
  have hB1 := b2.size
  clear hl1 b1 hpk y6
  go_upto_region 25 with (at_builtin; ((with_reducible refine wpList_appendS rfl (.tmp 107) (.const (.string ⟨#[82, 69, 77, 66]⟩)) rfl V.heap.size _ _ (by with_unfolding_all rfl) o1 [82, 69, 77, 66] rfl HL1.out hB1 ?_); rintro v4 w4 ⟨o4, g4⟩))
  have b4 := below_grown b2 b2.size g4 (fun k hk => (World.ownsRow.lt o1 k hk).1)
  have z4 := (b4.cell (p := ⟨w.heap.size, 4, none⟩) hlt).trans y4
  have hlt4 : w.heap.size < w4.heap.size := by have := b4.size; omega
  have hB4 := b4.size
  have t2 := t2.below b4
  have t2 := t2.more hB4
  clear o1 b2 g4 y1 y4 hB1 HL1
  generalize hL4 : wB [src, 0] ++ [82, 69, 77, 66] = L4 at o4
  have HL4 := Lib.hid hL4
  clear hL4
  have t2 : R32 (w4.alloc (.cells #[.int .u32 (bits .or .u32 (bits .or .u32 ((abouts.length : Int) * 16777216) ((E : Int) * 262144)) (M : Int))] 27)) w4.heap.size Aa abouts.length ca abouts :=
    ⟨t2.1, t2.2.1, t2.2.2.1, fun hn => by
      obtain ⟨b, off, e, hb', hc⟩ := t2.2.2.2 hn
      exact ⟨b, off, e, hb', fun i hi => (World.cell?_alloc_lt w4 _ ⟨b, off + i, none⟩ hb').trans (hc i hi)⟩⟩
  have ow := own32_lit w4 w4.heap.size wd _ OR.out (Nat.le_refl _)
  have hwl : ∀ x ∈ wd :: abouts, x < 4294967296 := by
    intro x hx
    rcases List.mem_cons.1 hx with rfl | h
    · exact wlt
    · exact t2.2.2.1 x h
  have HWL := Lib.hid hwl
  have hl5 : [wd].length + abouts.length ≤ 1000000 := by simp; omega
  have HL5 := Lib.hid hl5
  have hbw : w4.heap.size ≤ (w4.alloc (.cells #[.int .u32 (bits .or .u32 (bits .or .u32 ((abouts.length : Int) * 16777216) ((E : Int) * 262144)) (M : Int))] 27)).heap.size := by simp
  clear hwl hl5
  go_wp2_with (at_builtin; ((with_reducible refine wpList_append32 rfl (.tmp 121) (.tmp 123) rfl rfl w4.heap.size _ _ (by with_unfolding_all rfl) ow w4.heap.size Aa _ ca _ (by with_unfolding_all rfl) t2 HL5.out hbw ?_); rintro v5 w5 ⟨o5, g5⟩))
  have b5 : Below w4.heap.size w4 w5 := below_grown ((Below.refl _ w4).alloc (Nat.le_refl _) _) hbw g5 (fun k hk => (World.ownsRow.lt ow k hk).1)
  have o4 := own8_kept o4 b5
  obtain ⟨A5, c5, rfl, r5⟩ := o5.r32 HWL.out
  have b5 := b4.trans (b5.mono hB4)
  have hl6 : ([wd] ++ abouts).length ≤ 1000000 := by simp; omega
  have hwd := ref6_words A5 _ c5 ([wd] ++ abouts) w5 r5 hl6
  generalize hW6 : ([wd] ++ abouts) = W6 at hwd hl6
  have HW6 := Lib.hid hW6
  have hll : W6.length = abouts.length + 1 := by rw [← hW6]; simp
  have HLL := Lib.hid hll
  clear hW6 hll t2 ow g5 o5 HWL HL5 hbw b4 r5 z4
  ((with_reducible refine hwd.mono ?_); rintro e w6 ⟨v6, rfl, o6, b6⟩)
  have o4 := own8_kept o4 b6
  have b6 := b5.trans (b6.mono b5.size)
  obtain ⟨A6, c6, rfl, r6⟩ := o6.r8
  have hl7 : L4.length + (wB W6).length ≤ 140737488355328 := by
    rw [← HL4.out, wB_len, HLL.out]
    simp [wB_len]
    omega
  generalize hW7 : wB W6 = W7 at hl7 r6
  have HW7 := Lib.hid hW7
  have HL7 := Lib.hid hl7
  clear hW7 hl7 hwd b5 o6 hl6
  go_wp2_with (at_builtin; go_loud ((with_reducible refine wpList_append8 rfl (.tmp 109) (.tmp 125) rfl rfl V.heap.size _ _ (by with_unfolding_all rfl) o4 w6.heap.size A6 _ c6 _ (by with_unfolding_all rfl) r6 HL7.out b6.size ?_); rintro v8 w8 ha8))
  have b8 := hb.trans ((below_grown b6 b6.size ha8.2.1 (fun k hk => (World.ownsRow.lt o4 k hk).1)).mono hb.size)
  have o8 := ha8.1
  have he : L4 ++ W7 = be src 4 ++ (be 0 4 ++ ([82, 69, 77, 66] ++ (be wd 4 ++ wB abouts))) := by
    rw [← HL4.out, ← HW7.out, ← HW6.out]
    simp [wB]
  rw [he] at o8
  generalize hT : be src 4 ++ (be 0 4 ++ ([82, 69, 77, 66] ++ (be wd 4 ++ wB abouts))) = T at o8
  have HT := Lib.hid hT
  obtain ⟨A8, c8, rfl, r8⟩ := o8.r8
  clear hT he ha8 o8 o4 b6 r6
  go_wp2_with fail
  refine bodyPost_ret (v := .tuple #[.int .i64 206, .int .i64 15, .slice A8 T.length c8]) (by simp [results, Try.results53, go_sem]) rfl ?_
  refine ⟨A8, _, c8, by rw [HTC.out], ?_, b8⟩
  rw [HTL.out, show rembW abouts.length rate = wd from HWD.out, HT.out]
  exact r8
end Go.Proofs.Ytnchgmemajmkjaa
