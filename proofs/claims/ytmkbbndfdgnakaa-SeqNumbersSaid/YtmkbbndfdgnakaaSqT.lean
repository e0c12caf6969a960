/- The given reference's Seen: Add. -/
import Derived.Test.YtmkbbndfdgnakaaSqS
namespace Go.Proofs.Ytmkbbndfdgnakaa
open Go.RowKit
set_option linter.unusedVariables false
set_option linter.unusedSimpArgs false
set_option maxRecDepth 20000

/-- What Add leaves. -/
def SnOut (g : Nat) (s : Sn) (x : Int) (w : World) (e : Ending) (w' : World) : Prop := e = .returned (.tuple #[.int .i64 x, .bool (okX s x)]) ∧ SnAt w' g (addX s x) ∧ Only g w w'
theorem shl_one (b : Nat) (hb : b ≤ 63) : IntKind.u64.wrap ((2 : Int) ^ b) = ((2 ^ b : Nat) : Int) := by
  have h1 : 2 ^ b ≤ 2 ^ 63 := Nat.pow_le_pow_right (by omega) hb
  have h2 : ((2 : Int) ^ b) = ((2 ^ b : Nat) : Int) := by simp
  rw [h2]
  generalize 2 ^ b = X at h1
  rw [IntKind.wrap_u64]
  omega
theorem shl_raw (m e : Nat) : IntKind.u64.wrap ((m : Int) * 2 ^ e) = ((m * 2 ^ e % 2 ^ 64 : Nat) : Int) := by
  have h2 : ((m : Int) * 2 ^ e) = ((m * 2 ^ e : Nat) : Int) := by simp
  rw [h2]
  generalize m * 2 ^ e = X
  rw [IntKind.wrap_u64]
  omega
theorem shl_nat (M d : Nat) : IntKind.u64.wrap ((M : Int) * 2 ^ d) = (((M <<< d) % 18446744073709551616 : Nat) : Int) := by
  rw [Nat.shiftLeft_eq]
  exact shl_raw M d
section
variable {w : World} {g : Nat} {s : Sn} {m n : Nat} {x : Int}

set_option maxHeartbeats 2000000 in
theorem add_first (h : SnAt w g s) (ok : SnOk s m) (hm : m ≤ 1000000) (hl : s.last < 0) (hx : x = ext16 s.last n) (hx0 : 0 ≤ x) (hx1 : x ≤ s.last + 65536) (hn : n < 65536) (hI : I64 s.last) : Calls Try.prog 20 #[.pointer (some ⟨g, 0, none⟩), .int .u16 (n : Int)] w (SnOut g s x w) := by
  have hc := fun W => ref_extend s.last n hI hn W
  rw [← hx] at hc
  obtain ⟨M, hb, hM⟩ := h
  have htop := ok.top
  have hlow := ok.low
  have hhad : hadS s ≤ 1000000 := Nat.le_trans (Nat.le_trans (List.countP_le_length) ok.len) hm
  obtain ⟨e1, e2, e3⟩ := mask_first ok hl hx0
  have ho : okX s x = true := okX_iff.2 (.inl hl)
  unfold SnOut
  rw [ho]
  have HO : Hid (∀ W, Blk W g 47 #[.int .i64 x, .int .i64 x, .int .u64 1, .int .i64 1] → SnAt W g (addX s x)) := Lib.hid (fun W hW => ⟨1, by rw [e3, e1]; exact hW, e2⟩)
  generalize addX s x = s' at HO ⊢
  clear e1 e2 e3
  obtain ⟨⟨k0, k1, k2⟩, k3⟩ : (w.cell? ⟨g, 0, none⟩ = some (.int .i64 s.first) ∧ w.cell? ⟨g, 1, none⟩ = some (.int .i64 s.last) ∧ w.cell? ⟨g, 2, none⟩ = some (.int .u64 (M : Int))) ∧ w.cell? ⟨g, 3, none⟩ = some (.int .i64 (hadS s : Int)) := ⟨⟨hb.cell 0, hb.cell 1, hb.cell 2⟩, hb.cell 3⟩
  have f0 := hb.frozen 0
  have f1 := hb.frozen 1
  have f2 := hb.frozen 2
  have f3 := hb.frozen 3
  have HB := Lib.hid hb
  have HC := Lib.hid hc
  clear hb hM hc ho hx ok
  generalize s.last = l at *
  generalize s.first = f at *
  generalize hadS s = q at *
  clear hI
  clear htop hlow hhad hx1
  go_enter Try.func20, Try.ntmps20
  go_wp2_with fail
  refine (HC.out _).mono ?_
  rintro e w' ⟨rfl, rfl⟩
  clear HC
  go_wp2
  have hF := ((((HB.out.set_ 0 (.int .i64 x)).set_ 1 (.int .i64 x)).set_ 2 (.int .u64 1)).set_ 3 (.int .i64 1))
  simp only [List.setIfInBounds_toArray, List.set_cons_succ, List.set_cons_zero] at hF
  have hO := ((((Only.refl g w).trans (Only.set g 0 _ (.int .i64 x))).trans (Only.set g 1 _ (.int .i64 x))).trans (Only.set g 2 _ (.int .u64 1))).trans (Only.set g 3 _ (.int .i64 1))
  go_ret2
  exact ⟨rfl, HO.out _ hF, hO⟩

set_option maxHeartbeats 2000000 in
theorem add_far (h : SnAt w g s) (ok : SnOk s m) (hm : m ≤ 1000000) (hl : 0 ≤ s.last) (hxl : x ≤ s.last) (hd : 63 < s.last - x) (hx : x = ext16 s.last n) (hx0 : 0 ≤ x) (hx1 : x ≤ s.last + 65536) (hn : n < 65536) (hI : I64 s.last) : Calls Try.prog 20 #[.pointer (some ⟨g, 0, none⟩), .int .u16 (n : Int)] w (SnOut g s x w) := by
  have hc := fun W => ref_extend s.last n hI hn W
  rw [← hx] at hc
  obtain ⟨M, hb, hM⟩ := h
  have htop := ok.top
  have hlow := ok.low
  have hhad : hadS s ≤ 1000000 := Nat.le_trans (Nat.le_trans (List.countP_le_length) ok.len) hm
  obtain ⟨e1, ho⟩ := add_no hl hxl (.inl hd)
  unfold SnOut
  rw [ho]
  have HO : Hid (∀ W, Blk W g 47 #[.int .i64 s.first, .int .i64 s.last, .int .u64 (M : Int), .int .i64 (hadS s : Int)] → SnAt W g (addX s x)) := Lib.hid (fun W hW => ⟨M, by rw [e1]; exact hW, by rw [e1]; exact hM⟩)
  generalize addX s x = s' at HO ⊢
  clear e1
  obtain ⟨⟨k0, k1, k2⟩, k3⟩ : (w.cell? ⟨g, 0, none⟩ = some (.int .i64 s.first) ∧ w.cell? ⟨g, 1, none⟩ = some (.int .i64 s.last) ∧ w.cell? ⟨g, 2, none⟩ = some (.int .u64 (M : Int))) ∧ w.cell? ⟨g, 3, none⟩ = some (.int .i64 (hadS s : Int)) := ⟨⟨hb.cell 0, hb.cell 1, hb.cell 2⟩, hb.cell 3⟩
  have f0 := hb.frozen 0
  have f1 := hb.frozen 1
  have f2 := hb.frozen 2
  have f3 := hb.frozen 3
  have HB := Lib.hid hb
  have HC := Lib.hid hc
  clear hb hM hc ho hx ok
  generalize s.last = l at *
  generalize s.first = f at *
  generalize hadS s = q at *
  clear hI
  have k1d : ∀ j, (w.drewN j).cell? ⟨g, 1, none⟩ = some (.int .i64 l) := fun _ => k1
  go_enter Try.func20, Try.ntmps20
  go_wp2_with fail
  refine (HC.out _).mono ?_
  rintro e w' ⟨rfl, rfl⟩
  clear HC
  go_upto_region 12 with (fail)
  go_quiet (fail)
  go_wp2
  go_ret2
  exact ⟨rfl, HO.out _ (HB.out.drewN nq), Only.of (belowDrewN w nq)⟩

set_option maxHeartbeats 2000000 in
theorem add_up (h : SnAt w g s) (ok : SnOk s m) (hm : m ≤ 1000000) (hl : 0 ≤ s.last) (hxl : s.last < x) (hd : x - s.last ≤ 63) (hx : x = ext16 s.last n) (hx0 : 0 ≤ x) (hx1 : x ≤ s.last + 65536) (hn : n < 65536) (hI : I64 s.last) : Calls Try.prog 20 #[.pointer (some ⟨g, 0, none⟩), .int .u16 (n : Int)] w (SnOut g s x w) := by
  have hc := fun W => ref_extend s.last n hI hn W
  rw [← hx] at hc
  obtain ⟨M, hb, hM⟩ := h
  have htop := ok.top
  have hlow := ok.low
  have hhad : hadS s ≤ 1000000 := Nat.le_trans (Nat.le_trans (List.countP_le_length) ok.len) hm
  obtain ⟨d, hdd⟩ : ∃ d : Nat, x - s.last = (d : Int) := ⟨(x - s.last).toNat, by omega⟩
  obtain ⟨M2, hM2⟩ : ∃ M2, M2 = (M <<< d) % 18446744073709551616 := ⟨_, rfl⟩
  obtain ⟨e1, e2, e3⟩ := mask_up ok hM hl hxl (M2 := M2) (by rw [if_neg (by omega), hdd, Int.toNat_natCast]; exact hM2)
  have ho : okX s x = true := okX_iff.2 (.inr (.inl hxl))
  have hsh := shl_nat M d
  rw [← hM2] at hsh
  have hM2l : M2 < 18446744073709551616 := by rw [hM2]; exact Nat.mod_lt _ (by decide)
  have hor : bits .or .u64 (M2 : Int) 1 = ((M2 ||| 1 : Nat) : Int) := bits_or_u64_nat M2 1 hM2l (by decide)
  obtain ⟨M3, hM3⟩ : ∃ M3, M3 = M2 ||| 1 := ⟨_, rfl⟩
  rw [← hM3] at hor e2
  unfold SnOut
  rw [ho]
  have HO : Hid (∀ W, Blk W g 47 #[.int .i64 s.first, .int .i64 x, .int .u64 (M3 : Int), .int .i64 ((hadS s + 1 : Nat) : Int)] → SnAt W g (addX s x)) := Lib.hid (fun W hW => ⟨M3, by rw [e3, e1]; exact hW, e2⟩)
  generalize addX s x = s' at HO ⊢
  clear e1 e2 e3
  obtain ⟨⟨k0, k1, k2⟩, k3⟩ : (w.cell? ⟨g, 0, none⟩ = some (.int .i64 s.first) ∧ w.cell? ⟨g, 1, none⟩ = some (.int .i64 s.last) ∧ w.cell? ⟨g, 2, none⟩ = some (.int .u64 (M : Int))) ∧ w.cell? ⟨g, 3, none⟩ = some (.int .i64 (hadS s : Int)) := ⟨⟨hb.cell 0, hb.cell 1, hb.cell 2⟩, hb.cell 3⟩
  have f0 := hb.frozen 0
  have f1 := hb.frozen 1
  have f2 := hb.frozen 2
  have f3 := hb.frozen 3
  have HB := Lib.hid hb
  have HC := Lib.hid hc
  clear hb hM hc ho hx ok
  generalize s.last = l at *
  generalize s.first = f at *
  generalize hadS s = q at *
  clear hI
  have y1 : IntKind.i64.wrap (x - l) = (d : Int) := by rw [IntKind.wrap_i64]; omega
  have hd63 : d ≤ 63 := by omega
  clear hM3 hM2 hdd
  go_enter Try.func20, Try.ntmps20
  go_wp2_with fail
  refine (HC.out _).mono ?_
  rintro e w' ⟨rfl, rfl⟩
  clear HC
  go_upto_region 10 with (fail)
  go_region
  go_wp2_with fail
  have hB1 := (HB.out.set_ 2 (.int .u64 (M2 : Int))).drew
  try simp only [List.setIfInBounds_toArray, List.set_cons_succ, List.set_cons_zero] at hB1
  have hO1 : Only g w (w.setCell ⟨g, 2, none⟩ (.int .u64 (M2 : Int))).drew := (Only.set g 2 w _).drew
  generalize (w.setCell ⟨g, 2, none⟩ (.int .u64 (M2 : Int))).drew = W at hB1 hO1 ⊢
  clear k0 k1 k2 k3 f0 f1 f2 f3
  obtain ⟨⟨k0, k1, k2⟩, k3⟩ := (⟨⟨hB1.cell 0, hB1.cell 1, hB1.cell 2⟩, hB1.cell 3⟩ : (_ ∧ _ ∧ _) ∧ _)
  have f0 := hB1.frozen 0
  have f1 := hB1.frozen 1
  have f2 := hB1.frozen 2
  have f3 := hB1.frozen 3
  simp only [List.getElem?_toArray, List.getElem?_cons_zero, List.getElem?_cons_succ] at k0 k1 k2 k3
  have HB1 := Lib.hid hB1
  clear hB1
  clear y1 hsh
  go_region
  go_wp2_with fail
  have hF := (((HB1.out.set_ 2 (.int .u64 (M3 : Int))).set_ 1 (.int .i64 x)).set_ 3 (.int .i64 ((q + 1 : Nat) : Int))).drew
  simp only [List.setIfInBounds_toArray, List.set_cons_succ, List.set_cons_zero] at hF
  have hO := (((hO1.trans (Only.set g 2 _ (.int .u64 (M3 : Int)))).trans (Only.set g 1 _ (.int .i64 x))).trans (Only.set g 3 _ (.int .i64 ((q + 1 : Nat) : Int)))).drew
  go_ret2
  exact ⟨rfl, HO.out _ hF, hO⟩

set_option maxHeartbeats 2000000 in
theorem add_up63 (h : SnAt w g s) (ok : SnOk s m) (hm : m ≤ 1000000) (hl : 0 ≤ s.last) (hxl : s.last < x) (hd : 63 < x - s.last) (hx : x = ext16 s.last n) (hx0 : 0 ≤ x) (hx1 : x ≤ s.last + 65536) (hn : n < 65536) (hI : I64 s.last) : Calls Try.prog 20 #[.pointer (some ⟨g, 0, none⟩), .int .u16 (n : Int)] w (SnOut g s x w) := by
  have hc := fun W => ref_extend s.last n hI hn W
  rw [← hx] at hc
  obtain ⟨M, hb, hM⟩ := h
  have htop := ok.top
  have hlow := ok.low
  have hhad : hadS s ≤ 1000000 := Nat.le_trans (Nat.le_trans (List.countP_le_length) ok.len) hm
  obtain ⟨e1, e2, e3⟩ := mask_up ok hM hl hxl (M2 := 0) (by rw [if_pos hd])
  have ho : okX s x = true := okX_iff.2 (.inr (.inl hxl))
  have hor : bits .or .u64 0 1 = 1 := bits_or_u64_nat 0 1 (by decide) (by decide)
  unfold SnOut
  rw [ho]
  have HO : Hid (∀ W, Blk W g 47 #[.int .i64 s.first, .int .i64 x, .int .u64 1, .int .i64 ((hadS s + 1 : Nat) : Int)] → SnAt W g (addX s x)) := Lib.hid (fun W hW => ⟨1, by rw [e3, e1]; exact hW, e2⟩)
  generalize addX s x = s' at HO ⊢
  clear e1 e2 e3
  obtain ⟨⟨k0, k1, k2⟩, k3⟩ : (w.cell? ⟨g, 0, none⟩ = some (.int .i64 s.first) ∧ w.cell? ⟨g, 1, none⟩ = some (.int .i64 s.last) ∧ w.cell? ⟨g, 2, none⟩ = some (.int .u64 (M : Int))) ∧ w.cell? ⟨g, 3, none⟩ = some (.int .i64 (hadS s : Int)) := ⟨⟨hb.cell 0, hb.cell 1, hb.cell 2⟩, hb.cell 3⟩
  have f0 := hb.frozen 0
  have f1 := hb.frozen 1
  have f2 := hb.frozen 2
  have f3 := hb.frozen 3
  have HB := Lib.hid hb
  have HC := Lib.hid hc
  clear hb hM hc ho hx ok
  generalize s.last = l at *
  generalize s.first = f at *
  generalize hadS s = q at *
  clear hI
  go_enter Try.func20, Try.ntmps20
  go_wp2_with fail
  refine (HC.out _).mono ?_
  rintro e w' ⟨rfl, rfl⟩
  clear HC
  go_upto_region 11 with (fail)
  have hB1 := HB.out.set_ 2 (.int .u64 0)
  try simp only [List.setIfInBounds_toArray, List.set_cons_succ, List.set_cons_zero] at hB1
  have hO1 : Only g w (w.setCell ⟨g, 2, none⟩ (.int .u64 0)) := Only.set g 2 w _
  generalize (w.setCell ⟨g, 2, none⟩ (.int .u64 0)) = W at hB1 hO1 ⊢
  clear k0 k1 k2 k3 f0 f1 f2 f3
  obtain ⟨⟨k0, k1, k2⟩, k3⟩ := (⟨⟨hB1.cell 0, hB1.cell 1, hB1.cell 2⟩, hB1.cell 3⟩ : (_ ∧ _ ∧ _) ∧ _)
  have f0 := hB1.frozen 0
  have f1 := hB1.frozen 1
  have f2 := hB1.frozen 2
  have f3 := hB1.frozen 3
  simp only [List.getElem?_toArray, List.getElem?_cons_zero, List.getElem?_cons_succ] at k0 k1 k2 k3
  have HB1 := Lib.hid hB1
  clear hB1
  go_region
  go_wp2_with fail
  have hF := (((HB1.out.set_ 2 (.int .u64 1)).set_ 1 (.int .i64 x)).set_ 3 (.int .i64 ((q + 1 : Nat) : Int))).drew
  simp only [List.setIfInBounds_toArray, List.set_cons_succ, List.set_cons_zero] at hF
  have hO := (((hO1.trans (Only.set g 2 _ (.int .u64 1))).trans (Only.set g 1 _ (.int .i64 x))).trans (Only.set g 3 _ (.int .i64 ((q + 1 : Nat) : Int)))).drew
  go_ret2
  exact ⟨rfl, HO.out _ hF, hO⟩

set_option maxHeartbeats 2000000 in
theorem add_seen (h : SnAt w g s) (ok : SnOk s m) (hm : m ≤ 1000000) (hl : 0 ≤ s.last) (hxl : x ≤ s.last) (hd : s.last - x ≤ 63) (hin : x ∈ s.L) (hx : x = ext16 s.last n) (hx0 : 0 ≤ x) (hx1 : x ≤ s.last + 65536) (hn : n < 65536) (hI : I64 s.last) : Calls Try.prog 20 #[.pointer (some ⟨g, 0, none⟩), .int .u16 (n : Int)] w (SnOut g s x w) := by
  have hc := fun W => ref_extend s.last n hI hn W
  rw [← hx] at hc
  obtain ⟨M, hb, hM⟩ := h
  have htop := ok.top
  have hlow := ok.low
  have hhad : hadS s ≤ 1000000 := Nat.le_trans (Nat.le_trans (List.countP_le_length) ok.len) hm
  obtain ⟨e1, ho⟩ := add_no hl hxl (.inr hin)
  obtain ⟨d, hdd⟩ : ∃ d : Nat, s.last - x = (d : Int) := ⟨(s.last - x).toNat, by omega⟩
  have hbit := mask_bit ok hM hl hxl hd
  rw [hdd, Int.toNat_natCast] at hbit
  obtain ⟨z, hz⟩ : ∃ z : Nat, z = M / 2 ^ d := ⟨_, rfl⟩
  have hz2 : (M : Int) / 2 ^ d = (z : Int) := by rw [hz]; simp
  have hzl : z < 18446744073709551616 := by rw [hz]; exact Nat.lt_of_le_of_lt (Nat.div_le_self _ _) hM.1
  rw [← hz] at hbit
  rw [if_pos hin] at hbit
  have hand : bits .and .u64 (z : Int) 1 = 1 := by
    have h := bits_and_u64_nat z 1 hzl (by decide)
    rw [Nat.and_one_is_mod, hbit] at h
    exact h
  clear hz hzl hbit
  unfold SnOut
  rw [ho]
  have HO : Hid (∀ W, Blk W g 47 #[.int .i64 s.first, .int .i64 s.last, .int .u64 (M : Int), .int .i64 (hadS s : Int)] → SnAt W g (addX s x)) := Lib.hid (fun W hW => ⟨M, by rw [e1]; exact hW, by rw [e1]; exact hM⟩)
  generalize addX s x = s' at HO ⊢
  clear e1
  obtain ⟨⟨k0, k1, k2⟩, k3⟩ : (w.cell? ⟨g, 0, none⟩ = some (.int .i64 s.first) ∧ w.cell? ⟨g, 1, none⟩ = some (.int .i64 s.last) ∧ w.cell? ⟨g, 2, none⟩ = some (.int .u64 (M : Int))) ∧ w.cell? ⟨g, 3, none⟩ = some (.int .i64 (hadS s : Int)) := ⟨⟨hb.cell 0, hb.cell 1, hb.cell 2⟩, hb.cell 3⟩
  have f0 := hb.frozen 0
  have f1 := hb.frozen 1
  have f2 := hb.frozen 2
  have f3 := hb.frozen 3
  have HB := Lib.hid hb
  have HC := Lib.hid hc
  clear hb hM hc ho hx ok
  generalize s.last = l at *
  generalize s.first = f at *
  generalize hadS s = q at *
  clear hI
  have y1 : IntKind.i64.wrap (l - x) = (d : Int) := by rw [IntKind.wrap_i64]; omega
  have hd63 : d ≤ 63 := by omega
  have hg1 : ¬ (63 : Int) < (d : Int) := by omega
  have hg2 : decide ((63 : Int) < (d : Int)) = false := by simp; omega
  have k1d : ∀ j, (w.drewN j).cell? ⟨g, 1, none⟩ = some (.int .i64 l) := fun _ => k1
  have k2d : ∀ j, (w.drewN j).cell? ⟨g, 2, none⟩ = some (.int .u64 (M : Int)) := fun _ => k2
  clear hdd
  clear hin
  go_enter Try.func20, Try.ntmps20
  go_wp2_with fail
  refine (HC.out _).mono ?_
  rintro e w' ⟨rfl, rfl⟩
  clear HC
  go_upto_region 12 with (fail)
  go_quiet (fail)
  go_wp2
  go_ret2
  exact ⟨rfl, HO.out _ (HB.out.drewN nq), Only.of (belowDrewN w nq)⟩

set_option maxHeartbeats 2000000 in
theorem add_down (h : SnAt w g s) (ok : SnOk s m) (hm : m ≤ 1000000) (hl : 0 ≤ s.last) (hxl : x ≤ s.last) (hd : s.last - x ≤ 63) (hin : x ∉ s.L) (hf : s.first < x) (hx : x = ext16 s.last n) (hx0 : 0 ≤ x) (hx1 : x ≤ s.last + 65536) (hn : n < 65536) (hI : I64 s.last) : Calls Try.prog 20 #[.pointer (some ⟨g, 0, none⟩), .int .u16 (n : Int)] w (SnOut g s x w) := by
  have hc := fun W => ref_extend s.last n hI hn W
  rw [← hx] at hc
  obtain ⟨M, hb, hM⟩ := h
  have htop := ok.top
  have hlow := ok.low
  have hhad : hadS s ≤ 1000000 := Nat.le_trans (Nat.le_trans (List.countP_le_length) ok.len) hm
  obtain ⟨e1, e2, e3⟩ := mask_down ok hM hl hxl hd hin
  have ho : okX s x = true := okX_iff.2 (.inr (.inr ⟨hd, hin⟩))
  obtain ⟨d, hdd⟩ : ∃ d : Nat, s.last - x = (d : Int) := ⟨(s.last - x).toNat, by omega⟩
  have hbit := mask_bit ok hM hl hxl hd
  rw [hdd, Int.toNat_natCast] at hbit
  obtain ⟨z, hz⟩ : ∃ z : Nat, z = M / 2 ^ d := ⟨_, rfl⟩
  have hz2 : (M : Int) / 2 ^ d = (z : Int) := by rw [hz]; simp
  have hzl : z < 18446744073709551616 := by rw [hz]; exact Nat.lt_of_le_of_lt (Nat.div_le_self _ _) hM.1
  rw [← hz] at hbit
  rw [if_neg hin] at hbit
  have hand : bits .and .u64 (z : Int) 1 = 0 := by
    have h := bits_and_u64_nat z 1 hzl (by decide)
    rw [Nat.and_one_is_mod, hbit] at h
    exact h
  clear hz hzl hbit
  rw [hdd, Int.toNat_natCast] at e2
  rw [if_pos hf] at e3
  have hs1 := shl_one d (by omega)
  have hD : 2 ^ d < 18446744073709551616 := Nat.lt_of_le_of_lt (Nat.pow_le_pow_right (by decide) (show d ≤ 63 by omega)) (by decide)
  obtain ⟨E, hE⟩ : ∃ E, E = 2 ^ d := ⟨_, rfl⟩
  rw [← hE] at hs1 hD e2
  have hor : bits .or .u64 (M : Int) (E : Int) = ((M ||| E : Nat) : Int) := bits_or_u64_nat M E hM.1 hD
  obtain ⟨M3, hM3⟩ : ∃ M3, M3 = M ||| E := ⟨_, rfl⟩
  rw [← hM3] at hor e2
  clear hE hM3
  unfold SnOut
  rw [ho]
  have HO : Hid (∀ W, Blk W g 47 #[.int .i64 s.first, .int .i64 s.last, .int .u64 (M3 : Int), .int .i64 ((hadS s + 1 : Nat) : Int)] → SnAt W g (addX s x)) := Lib.hid (fun W hW => ⟨M3, by rw [e3, e1]; exact hW, e2⟩)
  generalize addX s x = s' at HO ⊢
  clear e1 e2 e3
  obtain ⟨⟨k0, k1, k2⟩, k3⟩ : (w.cell? ⟨g, 0, none⟩ = some (.int .i64 s.first) ∧ w.cell? ⟨g, 1, none⟩ = some (.int .i64 s.last) ∧ w.cell? ⟨g, 2, none⟩ = some (.int .u64 (M : Int))) ∧ w.cell? ⟨g, 3, none⟩ = some (.int .i64 (hadS s : Int)) := ⟨⟨hb.cell 0, hb.cell 1, hb.cell 2⟩, hb.cell 3⟩
  have f0 := hb.frozen 0
  have f1 := hb.frozen 1
  have f2 := hb.frozen 2
  have f3 := hb.frozen 3
  have HB := Lib.hid hb
  have HC := Lib.hid hc
  clear hb hM hc ho hx ok
  generalize s.last = l at *
  generalize s.first = f at *
  generalize hadS s = q at *
  clear hI
  have y1 : IntKind.i64.wrap (l - x) = (d : Int) := by rw [IntKind.wrap_i64]; omega
  have hd63 : d ≤ 63 := by omega
  have hg1 : ¬ (63 : Int) < (d : Int) := by omega
  have hg2 : decide ((63 : Int) < (d : Int)) = false := by simp; omega
  have k1d : ∀ j, (w.drewN j).cell? ⟨g, 1, none⟩ = some (.int .i64 l) := fun _ => k1
  have k2d : ∀ j, (w.drewN j).cell? ⟨g, 2, none⟩ = some (.int .u64 (M : Int)) := fun _ => k2
  clear hdd
  clear hin
  go_enter Try.func20, Try.ntmps20
  go_wp2_with fail
  refine (HC.out _).mono ?_
  rintro e w' ⟨rfl, rfl⟩
  clear HC
  go_upto_region 12 with (fail)
  go_quiet (fail)
  have k1 : (w.drewN nq).cell? ⟨g, 1, none⟩ = some (.int .i64 l) := k1d nq
  have k2 : (w.drewN nq).cell? ⟨g, 2, none⟩ = some (.int .u64 (M : Int)) := k2d nq
  go_upto_region 2 with (fail)
  have hB1 := HB.out.drewN nq
  try simp only [List.setIfInBounds_toArray, List.set_cons_succ, List.set_cons_zero] at hB1
  have hO1 : Only g w (w.drewN nq) := Only.of (belowDrewN w nq)
  generalize (w.drewN nq) = W at hB1 hO1 ⊢
  clear k0 k1 k2 k3 f0 f1 f2 f3
  obtain ⟨⟨k0, k1, k2⟩, k3⟩ := (⟨⟨hB1.cell 0, hB1.cell 1, hB1.cell 2⟩, hB1.cell 3⟩ : (_ ∧ _ ∧ _) ∧ _)
  have f0 := hB1.frozen 0
  have f1 := hB1.frozen 1
  have f2 := hB1.frozen 2
  have f3 := hB1.frozen 3
  simp only [List.getElem?_toArray, List.getElem?_cons_zero, List.getElem?_cons_succ] at k0 k1 k2 k3
  have HB1 := Lib.hid hB1
  clear hB1
  clear k1d k2d
  go_region
  go_wp2_with fail
  have hF := (HB1.out.set_ 2 (.int .u64 (M3 : Int))).drew.set_ 3 (.int .i64 ((q + 1 : Nat) : Int))
  simp only [List.setIfInBounds_toArray, List.set_cons_succ, List.set_cons_zero] at hF
  have hO := (hO1.trans (Only.set g 2 _ (.int .u64 (M3 : Int)))).drew.trans (Only.set g 3 _ (.int .i64 ((q + 1 : Nat) : Int)))
  go_ret2
  exact ⟨rfl, HO.out _ hF, hO⟩

set_option maxHeartbeats 2000000 in
theorem add_downs (h : SnAt w g s) (ok : SnOk s m) (hm : m ≤ 1000000) (hl : 0 ≤ s.last) (hxl : x ≤ s.last) (hd : s.last - x ≤ 63) (hin : x ∉ s.L) (hf : ¬ s.first < x) (hx : x = ext16 s.last n) (hx0 : 0 ≤ x) (hx1 : x ≤ s.last + 65536) (hn : n < 65536) (hI : I64 s.last) : Calls Try.prog 20 #[.pointer (some ⟨g, 0, none⟩), .int .u16 (n : Int)] w (SnOut g s x w) := by
  have hc := fun W => ref_extend s.last n hI hn W
  rw [← hx] at hc
  obtain ⟨M, hb, hM⟩ := h
  have htop := ok.top
  have hlow := ok.low
  have hhad : hadS s ≤ 1000000 := Nat.le_trans (Nat.le_trans (List.countP_le_length) ok.len) hm
  obtain ⟨e1, e2, e3⟩ := mask_down ok hM hl hxl hd hin
  have ho : okX s x = true := okX_iff.2 (.inr (.inr ⟨hd, hin⟩))
  obtain ⟨d, hdd⟩ : ∃ d : Nat, s.last - x = (d : Int) := ⟨(s.last - x).toNat, by omega⟩
  have hbit := mask_bit ok hM hl hxl hd
  rw [hdd, Int.toNat_natCast] at hbit
  obtain ⟨z, hz⟩ : ∃ z : Nat, z = M / 2 ^ d := ⟨_, rfl⟩
  have hz2 : (M : Int) / 2 ^ d = (z : Int) := by rw [hz]; simp
  have hzl : z < 18446744073709551616 := by rw [hz]; exact Nat.lt_of_le_of_lt (Nat.div_le_self _ _) hM.1
  rw [← hz] at hbit
  rw [if_neg hin] at hbit
  have hand : bits .and .u64 (z : Int) 1 = 0 := by
    have h := bits_and_u64_nat z 1 hzl (by decide)
    rw [Nat.and_one_is_mod, hbit] at h
    exact h
  clear hz hzl hbit
  rw [hdd, Int.toNat_natCast] at e2
  rw [if_neg hf, Nat.add_zero] at e3
  have hs1 := shl_one d (by omega)
  have hD : 2 ^ d < 18446744073709551616 := Nat.lt_of_le_of_lt (Nat.pow_le_pow_right (by decide) (show d ≤ 63 by omega)) (by decide)
  obtain ⟨E, hE⟩ : ∃ E, E = 2 ^ d := ⟨_, rfl⟩
  rw [← hE] at hs1 hD e2
  have hor : bits .or .u64 (M : Int) (E : Int) = ((M ||| E : Nat) : Int) := bits_or_u64_nat M E hM.1 hD
  obtain ⟨M3, hM3⟩ : ∃ M3, M3 = M ||| E := ⟨_, rfl⟩
  rw [← hM3] at hor e2
  clear hE hM3
  unfold SnOut
  rw [ho]
  have HO : Hid (∀ W, Blk W g 47 #[.int .i64 s.first, .int .i64 s.last, .int .u64 (M3 : Int), .int .i64 (hadS s : Int)] → SnAt W g (addX s x)) := Lib.hid (fun W hW => ⟨M3, by rw [e3, e1]; exact hW, e2⟩)
  generalize addX s x = s' at HO ⊢
  clear e1 e2 e3
  obtain ⟨⟨k0, k1, k2⟩, k3⟩ : (w.cell? ⟨g, 0, none⟩ = some (.int .i64 s.first) ∧ w.cell? ⟨g, 1, none⟩ = some (.int .i64 s.last) ∧ w.cell? ⟨g, 2, none⟩ = some (.int .u64 (M : Int))) ∧ w.cell? ⟨g, 3, none⟩ = some (.int .i64 (hadS s : Int)) := ⟨⟨hb.cell 0, hb.cell 1, hb.cell 2⟩, hb.cell 3⟩
  have f0 := hb.frozen 0
  have f1 := hb.frozen 1
  have f2 := hb.frozen 2
  have f3 := hb.frozen 3
  have HB := Lib.hid hb
  have HC := Lib.hid hc
  clear hb hM hc ho hx ok
  generalize s.last = l at *
  generalize s.first = f at *
  generalize hadS s = q at *
  clear hI
  have y1 : IntKind.i64.wrap (l - x) = (d : Int) := by rw [IntKind.wrap_i64]; omega
  have hd63 : d ≤ 63 := by omega
  have hg1 : ¬ (63 : Int) < (d : Int) := by omega
  have hg2 : decide ((63 : Int) < (d : Int)) = false := by simp; omega
  have k1d : ∀ j, (w.drewN j).cell? ⟨g, 1, none⟩ = some (.int .i64 l) := fun _ => k1
  have k2d : ∀ j, (w.drewN j).cell? ⟨g, 2, none⟩ = some (.int .u64 (M : Int)) := fun _ => k2
  clear hdd
  clear hin
  go_enter Try.func20, Try.ntmps20
  go_wp2_with fail
  refine (HC.out _).mono ?_
  rintro e w' ⟨rfl, rfl⟩
  clear HC
  go_upto_region 12 with (fail)
  go_quiet (fail)
  have k1 : (w.drewN nq).cell? ⟨g, 1, none⟩ = some (.int .i64 l) := k1d nq
  have k2 : (w.drewN nq).cell? ⟨g, 2, none⟩ = some (.int .u64 (M : Int)) := k2d nq
  go_upto_region 2 with (fail)
  have hB1 := HB.out.drewN nq
  try simp only [List.setIfInBounds_toArray, List.set_cons_succ, List.set_cons_zero] at hB1
  have hO1 : Only g w (w.drewN nq) := Only.of (belowDrewN w nq)
  generalize (w.drewN nq) = W at hB1 hO1 ⊢
  clear k0 k1 k2 k3 f0 f1 f2 f3
  obtain ⟨⟨k0, k1, k2⟩, k3⟩ := (⟨⟨hB1.cell 0, hB1.cell 1, hB1.cell 2⟩, hB1.cell 3⟩ : (_ ∧ _ ∧ _) ∧ _)
  have f0 := hB1.frozen 0
  have f1 := hB1.frozen 1
  have f2 := hB1.frozen 2
  have f3 := hB1.frozen 3
  simp only [List.getElem?_toArray, List.getElem?_cons_zero, List.getElem?_cons_succ] at k0 k1 k2 k3
  have HB1 := Lib.hid hB1
  clear hB1
  clear k1d k2d
  go_region
  go_wp2_with fail
  have hF := (HB1.out.set_ 2 (.int .u64 (M3 : Int))).drew
  simp only [List.setIfInBounds_toArray, List.set_cons_succ, List.set_cons_zero] at hF
  have hO := (hO1.trans (Only.set g 2 _ (.int .u64 (M3 : Int)))).drew
  go_ret2
  exact ⟨rfl, HO.out _ hF, hO⟩

theorem ref_sadd (h : SnAt w g s) (ok : SnOk s m) (hm : m ≤ 1000000) (hn : n < 65536) : Calls Try.prog 20 #[.pointer (some ⟨g, 0, none⟩), .int .u16 (n : Int)] w (SnOut g s (ext16 s.last n) w) := by
  have htop := ok.top
  have hlow := ok.low
  have hI : I64 s.last := by unfold I64; omega
  have hx0 := (ext16_in hI hn).2
  have hx1 := ext16_le hlow (by omega) hn
  by_cases hl : s.last < 0
  · exact add_first h ok hm hl rfl hx0 hx1 hn hI
  · have hl' : 0 ≤ s.last := by omega
    by_cases hxl : s.last < ext16 s.last n
    · by_cases hd : 63 < ext16 s.last n - s.last
      · exact add_up63 h ok hm hl' hxl hd rfl hx0 hx1 hn hI
      · exact add_up h ok hm hl' hxl (by omega) rfl hx0 hx1 hn hI
    · have hxl' : ext16 s.last n ≤ s.last := by omega
      by_cases hd : 63 < s.last - ext16 s.last n
      · exact add_far h ok hm hl' hxl' hd rfl hx0 hx1 hn hI
      · by_cases hin : ext16 s.last n ∈ s.L
        · exact add_seen h ok hm hl' hxl' (by omega) hin rfl hx0 hx1 hn hI
        · by_cases hf : s.first < ext16 s.last n
          · exact add_down h ok hm hl' hxl' (by omega) hin hf rfl hx0 hx1 hn hI
          · exact add_downs h ok hm hl' hxl' (by omega) hin hf rfl hx0 hx1 hn hI

end
end Go.Proofs.Ytmkbbndfdgnakaa
