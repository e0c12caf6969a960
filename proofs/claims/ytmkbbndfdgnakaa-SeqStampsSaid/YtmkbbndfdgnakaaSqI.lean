/- The project's seq: Extend, Stamp; Seen: New, Add, Last, Lost. -/
import Derived.Test.YtmkbbndfdgnakaaSqP
import Derived.Test.YtmkbbndfdgnakaaDr
import Derived.StillTailTactics
import Derived.StillTactics
import Derived.Deep.CutRange
import Derived.RegionTactic
import Derived.ChangeAlike
import Derived.BigRegion
import Derived.BigQuiet
import Derived.Deep.QuietTactic
namespace Go.Proofs.Ytmkbbndfdgnakaa
open Go.RowKit
set_option linter.unusedVariables false
set_option linter.unusedSimpArgs false
set_option maxRecDepth 20000

namespace PS
/-- What the program asks after, in its own order. -/
theorem next_ways {last n x size : Int} (hx : x = last - last % size + n) (h0 : ¬ last < 0) (hs : 0 < size) (he : size % 2 = 0) :
    nextI last n size = (if size / 2 < x - last then (if size ≤ x then x - size else x) else if x - last ≤ -(size / 2) then (if x ≤ 9223372036854775807 - size then x + size else x) else x) := by
  unfold nextI backI
  rw [if_neg h0, ← hx]
  clear hx
  repeat' split
  all_goals omega

set_option maxHeartbeats 2000000 in
theorem near16 (last : Int) (n : Nat) (hl : I64 last) (hn : n < 65536) (w : World) : Calls Try.prog 22 #[.int .i64 last, .int .i64 (n : Int), .int .i64 65536] w fun e w' => e = .returned (.int .i64 (ext16 last n)) ∧ w = w' := by
  unfold I64 at hl
  obtain ⟨h1, h2⟩ := hl
  by_cases h0 : last < 0
  · have e : ext16 last n = (n : Int) := by unfold ext16 nextI; rw [if_pos h0]
    rw [e]
    clear e
    go_enter Try.func22, Try.ntmps22
    go_wp2
    go_ret
    exact ⟨rfl, rfl⟩
  · obtain ⟨r, hr⟩ : ∃ r, r = last % 65536 := ⟨_, rfl⟩
    have ht : last.tmod 65536 = r := by rw [hr, Int.tmod_eq_emod_of_nonneg (by omega)]
    obtain ⟨x, hx⟩ : ∃ x, x = last - r + (n : Int) := ⟨_, rfl⟩
    have e := next_ways (last := last) (n := (n : Int)) (x := x) (size := 65536) (by rw [hx, hr]) h0 (by decide) (by decide)
    have hr1 : 0 ≤ r := by omega
    have hr2 : r < 65536 := by omega
    have hr3 : r ≤ last := by omega
    have hx1 : 0 ≤ x := by omega
    have hx2 : x ≤ 9223372036854775807 := by omega
    have hx3 : x - last < 65536 := by omega
    have hx4 : last - x < 65536 := by omega
    obtain ⟨d, hd⟩ : ∃ d, d = x - last := ⟨_, rfl⟩
    have y1 : IntKind.i64.wrap (last - r + (n : Int)) = x := by rw [← hx, IntKind.wrap_i64]; omega
    have y2 : IntKind.i64.wrap (x - last) = d := by rw [← hd, IntKind.wrap_i64]; omega
    have y3 : IntKind.i64.wrap (last - r) = last - r := by rw [IntKind.wrap_i64]; omega
    unfold ext16
    rw [e, ← hd, show (65536 : Int) / 2 = 32768 from rfl, show (9223372036854775807 - 65536 : Int) = 9223372036854710271 from rfl, show -(32768 : Int) = -32768 from rfl]
    clear e hr
    have hd1 : -65536 < d ∧ d < 65536 := by omega
    clear hx hx3 hx4 hd
    by_cases c1 : 32768 < d
    · have t1 : decide (32768 < d) = true := decide_eq_true c1
      by_cases c2 : 65536 ≤ x
      · have t2 : decide (65536 ≤ x) = true := decide_eq_true c2
        have z1 : IntKind.i64.wrap (x - 65536) = x - 65536 := by rw [IntKind.wrap_i64]; omega
        rw [if_pos c1, if_pos c2]
        clear hd1 hx1 hx2
        go_enter Try.func22, Try.ntmps22
        go_wp2
        go_ret
        exact ⟨rfl, rfl⟩
      · have t2 : decide (65536 ≤ x) = false := decide_eq_false c2
        have t3 : decide (d ≤ -32768) = false := decide_eq_false (by omega)
        rw [if_pos c1, if_neg c2]
        clear hd1 hx1 hx2
        go_enter Try.func22, Try.ntmps22
        go_wp2
        go_ret
        exact ⟨rfl, rfl⟩
    · have t1 : decide (32768 < d) = false := decide_eq_false c1
      by_cases c3 : d ≤ -32768
      · have t3 : decide (d ≤ -32768) = true := decide_eq_true c3
        by_cases c4 : x ≤ 9223372036854710271
        · have t4 : decide (x ≤ 9223372036854710271) = true := decide_eq_true c4
          have z1 : IntKind.i64.wrap (x + 65536) = x + 65536 := by rw [IntKind.wrap_i64]; omega
          rw [if_neg c1, if_pos c3, if_pos c4]
          clear hd1 hx1 hx2
          go_enter Try.func22, Try.ntmps22
          go_wp2
          go_ret
          exact ⟨rfl, rfl⟩
        · have t4 : decide (x ≤ 9223372036854710271) = false := decide_eq_false c4
          rw [if_neg c1, if_pos c3, if_neg c4]
          clear hd1 hx1 hx2
          go_enter Try.func22, Try.ntmps22
          go_wp2
          go_ret
          exact ⟨rfl, rfl⟩
      · have t3 : decide (d ≤ -32768) = false := decide_eq_false c3
        rw [if_neg c1, if_neg c3]
        clear hd1 hx1 hx2
        go_enter Try.func22, Try.ntmps22
        go_wp2
        go_ret
        exact ⟨rfl, rfl⟩
theorem ext_16 (last : Int) (n : Nat) (hl : I64 last) (hn : n < 65536) (w : World) : Calls Try.prog 11 #[.int .i64 last, .int .u16 (n : Int)] w fun e w' => e = .returned (.int .i64 (ext16 last n)) ∧ w = w' := by
  have h := near16 last n hl hn
  generalize ext16 last n = x at h ⊢
  clear hl
  go_enter Try.func11, Try.ntmps11
  go_wp2_with fail
  refine (h _).mono ?_
  rintro e w' ⟨rfl, rfl⟩
  go_wp2
  go_ret
  exact ⟨rfl, rfl⟩

set_option maxHeartbeats 2000000 in
theorem near32 (last : Int) (n : Nat) (hl : I64 last) (hn : n < 4294967296) (w : World) : Calls Try.prog 22 #[.int .i64 last, .int .i64 (n : Int), .int .i64 4294967296] w fun e w' => e = .returned (.int .i64 (ext32 last n)) ∧ w = w' := by
  unfold I64 at hl
  obtain ⟨h1, h2⟩ := hl
  by_cases h0 : last < 0
  · have e : ext32 last n = (n : Int) := by unfold ext32 nextI; rw [if_pos h0]
    rw [e]
    clear e
    go_enter Try.func22, Try.ntmps22
    go_wp2
    go_ret
    exact ⟨rfl, rfl⟩
  · obtain ⟨r, hr⟩ : ∃ r, r = last % 4294967296 := ⟨_, rfl⟩
    have ht : last.tmod 4294967296 = r := by rw [hr, Int.tmod_eq_emod_of_nonneg (by omega)]
    obtain ⟨x, hx⟩ : ∃ x, x = last - r + (n : Int) := ⟨_, rfl⟩
    have e := next_ways (last := last) (n := (n : Int)) (x := x) (size := 4294967296) (by rw [hx, hr]) h0 (by decide) (by decide)
    have hr1 : 0 ≤ r := by omega
    have hr2 : r < 4294967296 := by omega
    have hr3 : r ≤ last := by omega
    have hx1 : 0 ≤ x := by omega
    have hx2 : x ≤ 9223372036854775807 := by omega
    have hx3 : x - last < 4294967296 := by omega
    have hx4 : last - x < 4294967296 := by omega
    obtain ⟨d, hd⟩ : ∃ d, d = x - last := ⟨_, rfl⟩
    have y1 : IntKind.i64.wrap (last - r + (n : Int)) = x := by rw [← hx, IntKind.wrap_i64]; omega
    have y2 : IntKind.i64.wrap (x - last) = d := by rw [← hd, IntKind.wrap_i64]; omega
    have y3 : IntKind.i64.wrap (last - r) = last - r := by rw [IntKind.wrap_i64]; omega
    unfold ext32
    rw [e, ← hd, show (4294967296 : Int) / 2 = 2147483648 from rfl, show (9223372036854775807 - 4294967296 : Int) = 9223372032559808511 from rfl, show -(2147483648 : Int) = -2147483648 from rfl]
    clear e hr
    have hd1 : -4294967296 < d ∧ d < 4294967296 := by omega
    clear hx hx3 hx4 hd
    by_cases c1 : 2147483648 < d
    · have t1 : decide (2147483648 < d) = true := decide_eq_true c1
      by_cases c2 : 4294967296 ≤ x
      · have t2 : decide (4294967296 ≤ x) = true := decide_eq_true c2
        have z1 : IntKind.i64.wrap (x - 4294967296) = x - 4294967296 := by rw [IntKind.wrap_i64]; omega
        rw [if_pos c1, if_pos c2]
        clear hd1 hx1 hx2
        go_enter Try.func22, Try.ntmps22
        go_wp2
        go_ret
        exact ⟨rfl, rfl⟩
      · have t2 : decide (4294967296 ≤ x) = false := decide_eq_false c2
        have t3 : decide (d ≤ -2147483648) = false := decide_eq_false (by omega)
        rw [if_pos c1, if_neg c2]
        clear hd1 hx1 hx2
        go_enter Try.func22, Try.ntmps22
        go_wp2
        go_ret
        exact ⟨rfl, rfl⟩
    · have t1 : decide (2147483648 < d) = false := decide_eq_false c1
      by_cases c3 : d ≤ -2147483648
      · have t3 : decide (d ≤ -2147483648) = true := decide_eq_true c3
        by_cases c4 : x ≤ 9223372032559808511
        · have t4 : decide (x ≤ 9223372032559808511) = true := decide_eq_true c4
          have z1 : IntKind.i64.wrap (x + 4294967296) = x + 4294967296 := by rw [IntKind.wrap_i64]; omega
          rw [if_neg c1, if_pos c3, if_pos c4]
          clear hd1 hx1 hx2
          go_enter Try.func22, Try.ntmps22
          go_wp2
          go_ret
          exact ⟨rfl, rfl⟩
        · have t4 : decide (x ≤ 9223372032559808511) = false := decide_eq_false c4
          rw [if_neg c1, if_pos c3, if_neg c4]
          clear hd1 hx1 hx2
          go_enter Try.func22, Try.ntmps22
          go_wp2
          go_ret
          exact ⟨rfl, rfl⟩
      · have t3 : decide (d ≤ -2147483648) = false := decide_eq_false c3
        rw [if_neg c1, if_neg c3]
        clear hd1 hx1 hx2
        go_enter Try.func22, Try.ntmps22
        go_wp2
        go_ret
        exact ⟨rfl, rfl⟩
theorem ext_32 (last : Int) (n : Nat) (hl : I64 last) (hn : n < 4294967296) (w : World) : Calls Try.prog 12 #[.int .i64 last, .int .u32 (n : Int)] w fun e w' => e = .returned (.int .i64 (ext32 last n)) ∧ w = w' := by
  have h := near32 last n hl hn
  generalize ext32 last n = x at h ⊢
  clear hl
  go_enter Try.func12, Try.ntmps12
  go_wp2_with fail
  refine (h _).mono ?_
  rintro e w' ⟨rfl, rfl⟩
  go_wp2
  go_ret
  exact ⟨rfl, rfl⟩

end PS
theorem sq_extend (last : Int) (n : Nat) (hl : I64 last) (hn : n < 65536) (w : World) : Calls Try.prog 11 #[.int .i64 last, .int .u16 (n : Int)] w (Dn (.int .i64 (ext16 last n)) w) := by
  refine (PS.ext_16 last n hl hn w).mono ?_
  rintro e w' ⟨rfl, rfl⟩
  exact ⟨rfl, 0, rfl⟩
theorem sq_stamp (last : Int) (n : Nat) (hl : I64 last) (hn : n < 4294967296) (w : World) : Calls Try.prog 12 #[.int .i64 last, .int .u32 (n : Int)] w (Dn (.int .i64 (ext32 last n)) w) := by
  refine (PS.ext_32 last n hl hn w).mono ?_
  rintro e w' ⟨rfl, rfl⟩
  exact ⟨rfl, 0, rfl⟩

/-- What the program keeps as the first one: 0 as long as none came. -/
def fstP (s : Sn) : Int := if s.last < 0 then 0 else s.first
/-- The project's Seen at G is as s; it stands on the block S. -/
def SqAt (w : World) (G : Nat) (s : Sn) (S : Nat → Prop) : Prop :=
  (∀ k, S k ↔ k = G) ∧ ∃ M : Nat, Blk w G 50 #[.int .i64 (fstP s), .int .i64 s.last, .int .i64 (hadS s : Int), .int .u64 (M : Int)] ∧ MaskOf s M ∧ (s.last < 0 → M = 0)
theorem SqAt.lt {w : World} {G : Nat} {s : Sn} {S : Nat → Prop} (h : SqAt w G s S) {k : Nat} (hk : S k) : k < w.heap.size := by
  obtain ⟨h1, M, hb, _⟩ := h
  rw [(h1 k).1 hk]
  exact hb.lt
theorem SqAt.keep {w w' : World} {G : Nat} {s : Sn} {S T : Nat → Prop} (h : SqAt w G s S) (ho : OnlyS T w w') (hd : ∀ k, S k → ¬ T k) : SqAt w' G s S := by
  obtain ⟨h1, M, hb, hM⟩ := h
  exact ⟨h1, M, hb.onlyS ho (hd G ((h1 G).2 rfl)), hM⟩
/-- What Add leaves. -/
def SqOut (G : Nat) (s : Sn) (x : Int) (S : Nat → Prop) (w : World) (e : Ending) (w' : World) : Prop :=
  e = .returned (.tuple #[.int .i64 x, .bool (okX s x)]) ∧ ∃ S', SqAt w' G (addX s x) S' ∧ (∀ k, S' k → S k ∨ w.heap.size ≤ k) ∧ OnlyS S w w'
theorem sq_new (w : World) : Calls Try.prog 13 #[] w (fun e w' => ∃ G S, e = .returned (.pointer (some ⟨G, 0, none⟩)) ∧ SqAt w' G newS S ∧ (∀ k, S k → w.heap.size ≤ k) ∧ Below w.heap.size w w') := by
  go_enter Try.func13, Try.ntmps13
  go_wp2
  go_ret
  exact ⟨w.heap.size, fun k => k = w.heap.size, rfl, ⟨fun k => Iff.rfl, 0, Blk.new _ _ _, ⟨by decide, fun i hi => by simp [newS]⟩, fun _ => rfl⟩, fun k hk => by rw [hk]; exact Nat.le_refl _, belowA _ _⟩

namespace PS
/-- What Add leaves, one block in sight. -/
def SnP (G : Nat) (s : Sn) (M : Nat) (w : World) : Prop := Blk w G 50 #[.int .i64 (fstP s), .int .i64 s.last, .int .i64 (hadS s : Int), .int .u64 (M : Int)] ∧ MaskOf s M ∧ (s.last < 0 → M = 0)
def SnO (g : Nat) (s : Sn) (x : Int) (w : World) (e : Ending) (w' : World) : Prop := e = .returned (.tuple #[.int .i64 x, .bool (okX s x)]) ∧ (∃ M', SnP g (addX s x) M' w') ∧ Only g w w'
theorem shl_one (b : Nat) (hb : b ≤ 63) : IntKind.u64.wrap ((2 : Int) ^ b) = ((2 ^ b : Nat) : Int) := by
  have h1 : 2 ^ b ≤ 2 ^ 63 := Nat.pow_le_pow_right (by omega) hb
  have h2 : ((2 : Int) ^ b) = ((2 ^ b : Nat) : Int) := by simp
  rw [h2]
  generalize 2 ^ b = X at h1
  rw [IntKind.wrap_u64]
  omega
theorem shl_raw (m e : Nat) : IntKind.u64.wrap ((m : Int) * 2 ^ e) = ((m * 2 ^ e % 2 ^ 64 : Nat) : Int) := by
  have h2 : ((m : Int) * 2 ^ e) = ((m * 2 ^ e : Nat) : Int) := by simp
  rw [h2]
  generalize m * 2 ^ e = X
  rw [IntKind.wrap_u64]
  omega
theorem shl_nat (M d : Nat) : IntKind.u64.wrap ((M : Int) * 2 ^ d) = (((M <<< d) % 18446744073709551616 : Nat) : Int) := by
  rw [Nat.shiftLeft_eq]
  exact shl_raw M d
theorem shl_op (M d : Nat) (hd : d ≤ 63) : Op.shift .shl .u64 (M : Int) .u64 (d : Int) = pure (.int .u64 (((M <<< d) % 18446744073709551616 : Nat) : Int)) := by
  rw [shift_shl_any _ _ _ _ (by omega), Int.toNat_natCast, Nat.min_eq_left (show d ≤ IntKind.u64.bits by show d ≤ 64; omega), shl_nat]
theorem shl_big (M d : Nat) (hd : 63 < d) : Op.shift .shl .u64 (M : Int) .u64 (d : Int) = pure (.int .u64 0) := by
  rw [shift_shl_any _ _ _ _ (by omega), Int.toNat_natCast, Nat.min_eq_right (show IntKind.u64.bits ≤ d by show 64 ≤ d; omega), show IntKind.u64.bits = 64 from rfl, shl_raw]
  congr 2
  have : M * 2 ^ 64 % 2 ^ 64 = 0 := Nat.mul_mod_left _ _
  omega
theorem shl_nil (d : Nat) : Op.shift .shl .u64 0 .u64 (d : Int) = pure (.int .u64 0) := by
  rw [shift_shl_any _ _ _ _ (by omega)]
  simp [IntKind.wrap_u64]
theorem bit_and {s : Sn} {m M d : Nat} {x : Int} (h : SnOk s m) (hM : MaskOf s M) (hd : d ≤ 63) (hx : s.last - x = (d : Int)) : M &&& 2 ^ d = if x ∈ s.L then 2 ^ d else 0 := by
  have hb := hM.2 d (by omega)
  rw [show s.last - (d : Int) = x by omega] at hb
  have hA : M &&& 2 ^ d = (M.testBit d).toNat * 2 ^ d := by
    refine Nat.eq_of_testBit_eq fun i => ?_
    rw [Nat.testBit_and, Nat.testBit_two_pow]
    by_cases hi : d = i
    · subst hi
      cases M.testBit d <;> simp
    · rw [decide_eq_false hi, Bool.and_false]
      cases M.testBit d
      · simp
      · rw [Bool.toNat_true, Nat.one_mul, Nat.testBit_two_pow, decide_eq_false hi]
  rw [hA]
  by_cases hin : x ∈ s.L
  · rw [if_pos hin, hb.2 hin]
    simp
  · have : M.testBit d = false := by
      cases hk : M.testBit d with
      | false => rfl
      | true => exact absurd (hb.1 hk) hin
    rw [if_neg hin, this]
    simp
theorem bit_low (M d : Nat) (hd : 0 < d) : (M <<< d) % 18446744073709551616 &&& 1 = 0 := by
  rw [Nat.and_one_is_mod, Nat.shiftLeft_eq]
  obtain ⟨e, rfl⟩ : ∃ e, d = e + 1 := ⟨d - 1, by omega⟩
  rw [Nat.pow_succ, ← Nat.mul_assoc]
  omega
section
variable {w : World} {g : Nat} {s : Sn} {m n M : Nat} {x : Int}

set_option maxHeartbeats 2000000 in
theorem padd_first (h : SnP g s M w) (ok : SnOk s m) (hm : m ≤ 1000000) (hl : s.last < 0) (hx : x = ext16 s.last n) (hx0 : 0 ≤ x) (hx1 : x ≤ s.last + 65536) (hn : n < 65536) (hI : I64 s.last) : Calls Try.prog 14 #[.pointer (some ⟨g, 0, none⟩), .int .u16 (n : Int)] w (SnO g s x w) := by
  have hc := fun W => ext_16 s.last n hI hn W
  rw [← hx] at hc
  obtain ⟨hb, hM, hz0⟩ := h
  have htop := ok.top
  have hlow := ok.low
  have hhad : hadS s ≤ 1000000 := Nat.le_trans (Nat.le_trans (List.countP_le_length) ok.len) hm
  obtain ⟨e1, e2, e3⟩ := mask_first ok hl hx0
  have ho : okX s x = true := okX_iff.2 (.inl hl)
  have e4 : hadS (addX s x) = hadS s + 1 := by rw [e3, ok.none hl]; rfl
  have hM0 := hz0 hl
  obtain ⟨d, hd⟩ : ∃ d : Nat, x + 1 = (d : Int) := ⟨(x + 1).toNat, by omega⟩
  unfold SnO
  rw [ho]
  have HO : Hid (∀ W, Blk W g 50 #[.int .i64 x, .int .i64 x, .int .i64 ((hadS s + 1 : Nat) : Int), .int .u64 1] → ∃ M', SnP g (addX s x) M' W) := Lib.hid (fun W hW => ⟨1, by rw [e4, e1]; unfold fstP; rw [if_neg (by simp only; omega)]; exact hW, e2, by rw [e1]; intro h; simp only at h; omega⟩)
  generalize addX s x = s' at HO ⊢
  clear hz0 e1 e2 e3 e4
  generalize fstP s = f at *
  generalize s.last = l at *
  generalize hadS s = q at *
  obtain ⟨⟨k0, k1, k2⟩, k3⟩ : (w.cell? ⟨g, 0, none⟩ = some (.int .i64 f) ∧ w.cell? ⟨g, 1, none⟩ = some (.int .i64 l) ∧ w.cell? ⟨g, 2, none⟩ = some (.int .i64 (q : Int))) ∧ w.cell? ⟨g, 3, none⟩ = some (.int .u64 (M : Int)) := ⟨⟨hb.cell 0, hb.cell 1, hb.cell 2⟩, hb.cell 3⟩
  have f0 := hb.frozen 0
  have f1 := hb.frozen 1
  have f2 := hb.frozen 2
  have f3 := hb.frozen 3
  have HB := Lib.hid hb
  have HC := Lib.hid hc
  clear hb hM hc ho hx ok hI
  have hd1 : d ≤ 65536 := by omega
  have y1 : IntKind.i64.wrap (x - l) = (d : Int) := by rw [IntKind.wrap_i64]; omega
  have s1 := shl_nil d
  have hM1 : (M : Int) = 0 := by omega
  rw [hM1] at k3
  have t1 : decide (l < x) = true := decide_eq_true (by omega)
  have t2 : decide (x ≤ x) = true := decide_eq_true (by omega)
  have a1 : bits .and .u64 0 1 = 0 := bits_and_u64_nat 0 1 (by decide) (by decide)
  have a2 : bits .or .u64 0 1 = 1 := bits_or_u64_nat 0 1 (by decide) (by decide)
  clear hd hM1 htop hlow hx1
  have y2 : IntKind.i64.wrap (x - x) = 0 := by rw [Int.sub_self]; rfl
  have s2 : Op.shift .shl .u64 1 .u64 0 = pure (.int .u64 1) := rfl
  go_enter Try.func14, Try.ntmps14
  go_wp2_with fail
  refine (HC.out _).mono ?_
  rintro e w' ⟨rfl, rfl⟩
  clear HC
  go_upto_region 5 with (fail)
  go_region
  go_upto_region 6 with (fail)
  have hB1 := ((HB.out.set_ 0 (.int .i64 x)).set_ 3 (.int .u64 0)).drew
  try simp only [List.setIfInBounds_toArray, List.set_cons_succ, List.set_cons_zero] at hB1
  have hO1 : Only g w ((w.setCell ⟨g, 0, none⟩ (.int .i64 x)).setCell ⟨g, 3, none⟩ (.int .u64 0)).drew := ((Only.set g 0 w _).trans (Only.set g 3 _ _)).drew
  generalize ((w.setCell ⟨g, 0, none⟩ (.int .i64 x)).setCell ⟨g, 3, none⟩ (.int .u64 0)).drew = W at hB1 hO1 ⊢
  clear k0 k1 k2 k3 f0 f1 f2 f3
  obtain ⟨⟨k0, k1, k2⟩, k3⟩ := (⟨⟨hB1.cell 0, hB1.cell 1, hB1.cell 2⟩, hB1.cell 3⟩ : (_ ∧ _ ∧ _) ∧ _)
  have f0 := hB1.frozen 0
  have f1 := hB1.frozen 1
  have f2 := hB1.frozen 2
  have f3 := hB1.frozen 3
  simp only [List.getElem?_toArray, List.getElem?_cons_zero, List.getElem?_cons_succ] at k0 k1 k2 k3
  have HB1 := Lib.hid hB1
  clear hB1
  clear y1 s1 t1
  go_upto_region 7 with (fail)
  go_upto_region 8 with (fail)
  clear y2 s2
  go_wp2
  have hF := (((HB1.out.set_ 1 (.int .i64 x)).set_ 3 (.int .u64 1)).set_ 2 (.int .i64 ((q + 1 : Nat) : Int)))
  simp only [List.setIfInBounds_toArray, List.set_cons_succ, List.set_cons_zero] at hF
  have hO := (((hO1).trans (Only.set g 1 _ (.int .i64 x))).trans (Only.set g 3 _ (.int .u64 1))).trans (Only.set g 2 _ (.int .i64 ((q + 1 : Nat) : Int)))
  go_ret2
  exact ⟨rfl, HO.out _ hF, hO⟩

set_option maxHeartbeats 2000000 in
theorem padd_up (h : SnP g s M w) (ok : SnOk s m) (hm : m ≤ 1000000) (hl : 0 ≤ s.last) (hxl : s.last < x) (hd : x - s.last ≤ 63) (hx : x = ext16 s.last n) (hx0 : 0 ≤ x) (hx1 : x ≤ s.last + 65536) (hn : n < 65536) (hI : I64 s.last) : Calls Try.prog 14 #[.pointer (some ⟨g, 0, none⟩), .int .u16 (n : Int)] w (SnO g s x w) := by
  have hc := fun W => ext_16 s.last n hI hn W
  rw [← hx] at hc
  obtain ⟨hb, hM, hz0⟩ := h
  have htop := ok.top
  have hlow := ok.low
  have hhad : hadS s ≤ 1000000 := Nat.le_trans (Nat.le_trans (List.countP_le_length) ok.len) hm
  obtain ⟨M2, hM2⟩ : ∃ M2, M2 = (M <<< (x - s.last).toNat) % 18446744073709551616 := ⟨_, rfl⟩
  obtain ⟨e1, e2, e3⟩ := mask_up ok hM hl hxl (M2 := M2) (by rw [if_neg (by omega)]; exact hM2)
  obtain ⟨d, hdd⟩ : ∃ d : Nat, x - s.last = (d : Int) := ⟨(x - s.last).toNat, by omega⟩
  have ho : okX s x = true := okX_iff.2 (.inr (.inl hxl))
  have e4 : fstP (addX s x) = fstP s := by rw [e1]; unfold fstP; rw [if_neg (by simp only; omega), if_neg (by omega)]
  have hfx : fstP s ≤ x := by unfold fstP; rw [if_neg (by omega)]; have := ok.firstLo; omega
  rw [hdd, Int.toNat_natCast] at hM2
  have s1 := shl_nat M d
  have a1 : bits .and .u64 (M2 : Int) 1 = 0 := by
    have h := bits_and_u64_nat M2 1 (by rw [hM2]; exact Nat.mod_lt _ (by decide)) (by decide)
    rw [show M2 &&& 1 = 0 by rw [hM2]; exact bit_low M d (by omega)] at h
    exact h
  rw [← hM2] at s1
  have hM2l : M2 < 18446744073709551616 := by rw [hM2]; exact Nat.mod_lt _ (by decide)
  have a2 : bits .or .u64 (M2 : Int) 1 = ((M2 ||| 1 : Nat) : Int) := bits_or_u64_nat M2 1 hM2l (by decide)
  obtain ⟨M3, hM3⟩ : ∃ M3, M3 = M2 ||| 1 := ⟨_, rfl⟩
  rw [← hM3] at a2 e2
  have hd63 : d ≤ 63 := by omega
  clear hM2 hM2l hM3
  unfold SnO
  rw [ho]
  have HO : Hid (∀ W, Blk W g 50 #[.int .i64 (fstP s), .int .i64 x, .int .i64 ((hadS s + 1 : Nat) : Int), .int .u64 (M3 : Int)] → ∃ M', SnP g (addX s x) M' W) := Lib.hid (fun W hW => ⟨M3, by rw [e3, e4, e1]; exact hW, e2, by rw [e1]; intro h; simp only at h; omega⟩)
  generalize addX s x = s' at HO ⊢
  clear hz0 e1 e2 e3 e4
  generalize fstP s = f at *
  generalize s.last = l at *
  generalize hadS s = q at *
  obtain ⟨⟨k0, k1, k2⟩, k3⟩ : (w.cell? ⟨g, 0, none⟩ = some (.int .i64 f) ∧ w.cell? ⟨g, 1, none⟩ = some (.int .i64 l) ∧ w.cell? ⟨g, 2, none⟩ = some (.int .i64 (q : Int))) ∧ w.cell? ⟨g, 3, none⟩ = some (.int .u64 (M : Int)) := ⟨⟨hb.cell 0, hb.cell 1, hb.cell 2⟩, hb.cell 3⟩
  have f0 := hb.frozen 0
  have f1 := hb.frozen 1
  have f2 := hb.frozen 2
  have f3 := hb.frozen 3
  have HB := Lib.hid hb
  have HC := Lib.hid hc
  clear hb hM hc ho hx ok hI
  have y1 : IntKind.i64.wrap (x - l) = (d : Int) := by rw [IntKind.wrap_i64]; omega
  have t0 : decide (l < 0) = false := decide_eq_false (by omega)
  have t1 : decide (l < x) = true := decide_eq_true (by omega)
  have t2 : decide (f ≤ x) = true := decide_eq_true hfx
  clear hdd htop hlow hx1 hfx
  have y2 : IntKind.i64.wrap (x - x) = 0 := by rw [Int.sub_self]; rfl
  have s2 : Op.shift .shl .u64 1 .u64 0 = pure (.int .u64 1) := rfl
  go_enter Try.func14, Try.ntmps14
  go_wp2_with fail
  refine (HC.out _).mono ?_
  rintro e w' ⟨rfl, rfl⟩
  clear HC
  go_upto_region 5 with (fail)
  go_region
  go_upto_region 6 with (fail)
  have hB1 := (HB.out.set_ 3 (.int .u64 (M2 : Int))).drew
  try simp only [List.setIfInBounds_toArray, List.set_cons_succ, List.set_cons_zero] at hB1
  have hO1 : Only g w (w.setCell ⟨g, 3, none⟩ (.int .u64 (M2 : Int))).drew := (Only.set g 3 w _).drew
  generalize (w.setCell ⟨g, 3, none⟩ (.int .u64 (M2 : Int))).drew = W at hB1 hO1 ⊢
  clear k0 k1 k2 k3 f0 f1 f2 f3
  obtain ⟨⟨k0, k1, k2⟩, k3⟩ := (⟨⟨hB1.cell 0, hB1.cell 1, hB1.cell 2⟩, hB1.cell 3⟩ : (_ ∧ _ ∧ _) ∧ _)
  have f0 := hB1.frozen 0
  have f1 := hB1.frozen 1
  have f2 := hB1.frozen 2
  have f3 := hB1.frozen 3
  simp only [List.getElem?_toArray, List.getElem?_cons_zero, List.getElem?_cons_succ] at k0 k1 k2 k3
  have HB1 := Lib.hid hB1
  clear hB1
  clear y1 s1 t1 t0
  go_upto_region 7 with (fail)
  go_upto_region 8 with (fail)
  clear y2 s2
  go_wp2
  have hF := (((HB1.out.set_ 1 (.int .i64 x)).set_ 3 (.int .u64 (M3 : Int))).set_ 2 (.int .i64 ((q + 1 : Nat) : Int)))
  simp only [List.setIfInBounds_toArray, List.set_cons_succ, List.set_cons_zero] at hF
  have hO := (((hO1).trans (Only.set g 1 _ (.int .i64 x))).trans (Only.set g 3 _ (.int .u64 (M3 : Int)))).trans (Only.set g 2 _ (.int .i64 ((q + 1 : Nat) : Int)))
  go_ret2
  exact ⟨rfl, HO.out _ hF, hO⟩

set_option maxHeartbeats 2000000 in
theorem padd_up63 (h : SnP g s M w) (ok : SnOk s m) (hm : m ≤ 1000000) (hl : 0 ≤ s.last) (hxl : s.last < x) (hd : 63 < x - s.last) (hx : x = ext16 s.last n) (hx0 : 0 ≤ x) (hx1 : x ≤ s.last + 65536) (hn : n < 65536) (hI : I64 s.last) : Calls Try.prog 14 #[.pointer (some ⟨g, 0, none⟩), .int .u16 (n : Int)] w (SnO g s x w) := by
  have hc := fun W => ext_16 s.last n hI hn W
  rw [← hx] at hc
  obtain ⟨hb, hM, hz0⟩ := h
  have htop := ok.top
  have hlow := ok.low
  have hhad : hadS s ≤ 1000000 := Nat.le_trans (Nat.le_trans (List.countP_le_length) ok.len) hm
  obtain ⟨e1, e2, e3⟩ := mask_up ok hM hl hxl (M2 := 0) (by rw [if_pos hd])
  obtain ⟨d, hdd⟩ : ∃ d : Nat, x - s.last = (d : Int) := ⟨(x - s.last).toNat, by omega⟩
  have ho : okX s x = true := okX_iff.2 (.inr (.inl hxl))
  have e4 : fstP (addX s x) = fstP s := by rw [e1]; unfold fstP; rw [if_neg (by simp only; omega), if_neg (by omega)]
  have hfx : fstP s ≤ x := by unfold fstP; rw [if_neg (by omega)]; have := ok.firstLo; omega
  have s1 : IntKind.u64.wrap ((M : Int) * 2 ^ min d 64) = 0 := by
    rw [Nat.min_eq_right (by omega), shl_raw, Nat.mul_mod_left]
    rfl
  have hdl : d ≤ 65536 := by omega
  have a1 : bits .and .u64 0 1 = 0 := bits_and_u64_nat 0 1 (by decide) (by decide)
  have a2 : bits .or .u64 0 1 = 1 := bits_or_u64_nat 0 1 (by decide) (by decide)
  unfold SnO
  rw [ho]
  have HO : Hid (∀ W, Blk W g 50 #[.int .i64 (fstP s), .int .i64 x, .int .i64 ((hadS s + 1 : Nat) : Int), .int .u64 1] → ∃ M', SnP g (addX s x) M' W) := Lib.hid (fun W hW => ⟨1, by rw [e3, e4, e1]; exact hW, e2, by rw [e1]; intro h; simp only at h; omega⟩)
  generalize addX s x = s' at HO ⊢
  clear hz0 e1 e2 e3 e4
  generalize fstP s = f at *
  generalize s.last = l at *
  generalize hadS s = q at *
  obtain ⟨⟨k0, k1, k2⟩, k3⟩ : (w.cell? ⟨g, 0, none⟩ = some (.int .i64 f) ∧ w.cell? ⟨g, 1, none⟩ = some (.int .i64 l) ∧ w.cell? ⟨g, 2, none⟩ = some (.int .i64 (q : Int))) ∧ w.cell? ⟨g, 3, none⟩ = some (.int .u64 (M : Int)) := ⟨⟨hb.cell 0, hb.cell 1, hb.cell 2⟩, hb.cell 3⟩
  have f0 := hb.frozen 0
  have f1 := hb.frozen 1
  have f2 := hb.frozen 2
  have f3 := hb.frozen 3
  have HB := Lib.hid hb
  have HC := Lib.hid hc
  clear hb hM hc ho hx ok hI
  have y1 : IntKind.i64.wrap (x - l) = (d : Int) := by rw [IntKind.wrap_i64]; omega
  have t0 : decide (l < 0) = false := decide_eq_false (by omega)
  have t1 : decide (l < x) = true := decide_eq_true (by omega)
  have t2 : decide (f ≤ x) = true := decide_eq_true hfx
  clear hdd htop hlow hx1 hfx
  have y2 : IntKind.i64.wrap (x - x) = 0 := by rw [Int.sub_self]; rfl
  have s2 : Op.shift .shl .u64 1 .u64 0 = pure (.int .u64 1) := rfl
  go_enter Try.func14, Try.ntmps14
  go_wp2_with fail
  refine (HC.out _).mono ?_
  rintro e w' ⟨rfl, rfl⟩
  clear HC
  go_upto_region 5 with (fail)
  go_region
  go_upto_region 6 with (fail)
  have hB1 := (HB.out.set_ 3 (.int .u64 0)).drew
  try simp only [List.setIfInBounds_toArray, List.set_cons_succ, List.set_cons_zero] at hB1
  have hO1 : Only g w (w.setCell ⟨g, 3, none⟩ (.int .u64 0)).drew := (Only.set g 3 w _).drew
  generalize (w.setCell ⟨g, 3, none⟩ (.int .u64 0)).drew = W at hB1 hO1 ⊢
  clear k0 k1 k2 k3 f0 f1 f2 f3
  obtain ⟨⟨k0, k1, k2⟩, k3⟩ := (⟨⟨hB1.cell 0, hB1.cell 1, hB1.cell 2⟩, hB1.cell 3⟩ : (_ ∧ _ ∧ _) ∧ _)
  have f0 := hB1.frozen 0
  have f1 := hB1.frozen 1
  have f2 := hB1.frozen 2
  have f3 := hB1.frozen 3
  simp only [List.getElem?_toArray, List.getElem?_cons_zero, List.getElem?_cons_succ] at k0 k1 k2 k3
  have HB1 := Lib.hid hB1
  clear hB1
  clear y1 s1 t1 t0
  go_upto_region 7 with (fail)
  go_upto_region 8 with (fail)
  clear y2 s2
  go_wp2
  have hF := (((HB1.out.set_ 1 (.int .i64 x)).set_ 3 (.int .u64 1)).set_ 2 (.int .i64 ((q + 1 : Nat) : Int)))
  simp only [List.setIfInBounds_toArray, List.set_cons_succ, List.set_cons_zero] at hF
  have hO := (((hO1).trans (Only.set g 1 _ (.int .i64 x))).trans (Only.set g 3 _ (.int .u64 1))).trans (Only.set g 2 _ (.int .i64 ((q + 1 : Nat) : Int)))
  go_ret2
  exact ⟨rfl, HO.out _ hF, hO⟩

set_option maxHeartbeats 2000000 in
theorem padd_far (h : SnP g s M w) (ok : SnOk s m) (hm : m ≤ 1000000) (hl : 0 ≤ s.last) (hxl : x ≤ s.last) (hd : 63 < s.last - x) (hx : x = ext16 s.last n) (hx0 : 0 ≤ x) (hx1 : x ≤ s.last + 65536) (hn : n < 65536) (hI : I64 s.last) : Calls Try.prog 14 #[.pointer (some ⟨g, 0, none⟩), .int .u16 (n : Int)] w (SnO g s x w) := by
  have hc := fun W => ext_16 s.last n hI hn W
  rw [← hx] at hc
  obtain ⟨hb, hM, hz0⟩ := h
  have htop := ok.top
  have hlow := ok.low
  have hhad : hadS s ≤ 1000000 := Nat.le_trans (Nat.le_trans (List.countP_le_length) ok.len) hm
  obtain ⟨e1, ho⟩ := add_no hl hxl (.inl hd)
  obtain ⟨d, hdd⟩ : ∃ d : Nat, s.last - x = (d : Int) := ⟨(s.last - x).toNat, by omega⟩
  have s1 := shl_big 1 d (by omega)
  have s1 : IntKind.u64.wrap (2 ^ min d 64) = 0 := by rw [Nat.min_eq_right (by omega)]; decide
  have hdl : d ≤ 9223372036854775807 := by unfold I64 at hI; omega
  unfold SnO
  rw [ho]
  have HO : Hid (∀ W, Blk W g 50 #[.int .i64 (fstP s), .int .i64 s.last, .int .i64 (hadS s : Int), .int .u64 (M : Int)] → ∃ M', SnP g (addX s x) M' W) := Lib.hid (fun W hW => ⟨M, by rw [e1]; exact hW, by rw [e1]; exact hM, by intro h; rw [e1] at h; omega⟩)
  generalize addX s x = s' at HO ⊢
  clear hz0 e1
  generalize fstP s = f at *
  generalize s.last = l at *
  generalize hadS s = q at *
  obtain ⟨⟨k0, k1, k2⟩, k3⟩ : (w.cell? ⟨g, 0, none⟩ = some (.int .i64 f) ∧ w.cell? ⟨g, 1, none⟩ = some (.int .i64 l) ∧ w.cell? ⟨g, 2, none⟩ = some (.int .i64 (q : Int))) ∧ w.cell? ⟨g, 3, none⟩ = some (.int .u64 (M : Int)) := ⟨⟨hb.cell 0, hb.cell 1, hb.cell 2⟩, hb.cell 3⟩
  have f0 := hb.frozen 0
  have f1 := hb.frozen 1
  have f2 := hb.frozen 2
  have f3 := hb.frozen 3
  have HB := Lib.hid hb
  have HC := Lib.hid hc
  clear hb hM hc ho hx ok hI
  have y1 : IntKind.i64.wrap (l - x) = (d : Int) := by rw [IntKind.wrap_i64]; omega
  have t0 : decide (l < 0) = false := decide_eq_false (by omega)
  have t1 : decide (l < x) = false := decide_eq_false (by omega)
  clear hdd htop hlow hx1
  go_enter Try.func14, Try.ntmps14
  go_wp2_with fail
  refine (HC.out _).mono ?_
  rintro e w' ⟨rfl, rfl⟩
  clear HC
  go_wp2
  go_ret2
  exact ⟨rfl, HO.out _ HB.out, Only.refl g w⟩

set_option maxHeartbeats 2000000 in
theorem padd_seen (h : SnP g s M w) (ok : SnOk s m) (hm : m ≤ 1000000) (hl : 0 ≤ s.last) (hxl : x ≤ s.last) (hd : s.last - x ≤ 63) (hin : x ∈ s.L) (hx : x = ext16 s.last n) (hx0 : 0 ≤ x) (hx1 : x ≤ s.last + 65536) (hn : n < 65536) (hI : I64 s.last) : Calls Try.prog 14 #[.pointer (some ⟨g, 0, none⟩), .int .u16 (n : Int)] w (SnO g s x w) := by
  have hc := fun W => ext_16 s.last n hI hn W
  rw [← hx] at hc
  obtain ⟨hb, hM, hz0⟩ := h
  have htop := ok.top
  have hlow := ok.low
  have hhad : hadS s ≤ 1000000 := Nat.le_trans (Nat.le_trans (List.countP_le_length) ok.len) hm
  obtain ⟨e1, ho⟩ := add_no hl hxl (.inr hin)
  obtain ⟨d, hdd⟩ : ∃ d : Nat, s.last - x = (d : Int) := ⟨(s.last - x).toNat, by omega⟩
  have hand := bit_and ok hM (show d ≤ 63 by omega) hdd
  have s1 := shl_one d (by omega)
  have hD : 2 ^ d < 18446744073709551616 := Nat.lt_of_le_of_lt (Nat.pow_le_pow_right (by decide) (show d ≤ 63 by omega)) (by decide)
  have hE0 : 0 < 2 ^ d := Nat.pow_pos (by decide)
  have hd63 : d ≤ 63 := by omega
  rw [if_pos hin] at hand
  obtain ⟨E, hE⟩ : ∃ E, E = 2 ^ d := ⟨_, rfl⟩
  rw [← hE] at hand s1 hD hE0 
  have a1 := bits_and_u64_nat M E hM.1 hD
  rw [hand] at a1
  have t3 : decide ((E : Int) = 0) = false := decide_eq_false (by omega)
  have t4 : ¬ E = 0 := by omega
  have t5 : ¬ (E : Int) = 0 := by omega
  have t6 : ((E : Int) == 0) = false := by simp; omega
  have t7 : ((E : Int) != 0) = true := by simp; omega
  clear hand
  clear hE hD hE0 hin
  unfold SnO
  rw [ho]
  have HO : Hid (∀ W, Blk W g 50 #[.int .i64 (fstP s), .int .i64 s.last, .int .i64 (hadS s : Int), .int .u64 (M : Int)] → ∃ M', SnP g (addX s x) M' W) := Lib.hid (fun W hW => ⟨M, by rw [e1]; exact hW, by rw [e1]; exact hM, by intro h; rw [e1] at h; omega⟩)
  generalize addX s x = s' at HO ⊢
  clear hz0 e1
  generalize fstP s = f at *
  generalize s.last = l at *
  generalize hadS s = q at *
  obtain ⟨⟨k0, k1, k2⟩, k3⟩ : (w.cell? ⟨g, 0, none⟩ = some (.int .i64 f) ∧ w.cell? ⟨g, 1, none⟩ = some (.int .i64 l) ∧ w.cell? ⟨g, 2, none⟩ = some (.int .i64 (q : Int))) ∧ w.cell? ⟨g, 3, none⟩ = some (.int .u64 (M : Int)) := ⟨⟨hb.cell 0, hb.cell 1, hb.cell 2⟩, hb.cell 3⟩
  have f0 := hb.frozen 0
  have f1 := hb.frozen 1
  have f2 := hb.frozen 2
  have f3 := hb.frozen 3
  have HB := Lib.hid hb
  have HC := Lib.hid hc
  clear hb hM hc ho hx ok hI
  have y1 : IntKind.i64.wrap (l - x) = (d : Int) := by rw [IntKind.wrap_i64]; omega
  have t0 : decide (l < 0) = false := decide_eq_false (by omega)
  have t1 : decide (l < x) = false := decide_eq_false (by omega)
  clear hdd htop hlow hx1
  go_enter Try.func14, Try.ntmps14
  go_wp2_with fail
  refine (HC.out _).mono ?_
  rintro e w' ⟨rfl, rfl⟩
  clear HC
  go_wp2
  go_ret2
  exact ⟨rfl, HO.out _ HB.out, Only.refl g w⟩

set_option maxHeartbeats 2000000 in
theorem padd_down (h : SnP g s M w) (ok : SnOk s m) (hm : m ≤ 1000000) (hl : 0 ≤ s.last) (hxl : x ≤ s.last) (hd : s.last - x ≤ 63) (hin : x ∉ s.L) (hf : s.first < x) (hx : x = ext16 s.last n) (hx0 : 0 ≤ x) (hx1 : x ≤ s.last + 65536) (hn : n < 65536) (hI : I64 s.last) : Calls Try.prog 14 #[.pointer (some ⟨g, 0, none⟩), .int .u16 (n : Int)] w (SnO g s x w) := by
  have hc := fun W => ext_16 s.last n hI hn W
  rw [← hx] at hc
  obtain ⟨hb, hM, hz0⟩ := h
  have htop := ok.top
  have hlow := ok.low
  have hhad : hadS s ≤ 1000000 := Nat.le_trans (Nat.le_trans (List.countP_le_length) ok.len) hm
  obtain ⟨e1, e2, e3⟩ := mask_down ok hM hl hxl hd hin
  have ho : okX s x = true := okX_iff.2 (.inr (.inr ⟨hd, hin⟩))
  have e4 : fstP (addX s x) = fstP s := by rw [e1]; rfl
  obtain ⟨d, hdd⟩ : ∃ d : Nat, s.last - x = (d : Int) := ⟨(s.last - x).toNat, by omega⟩
  have hand := bit_and ok hM (show d ≤ 63 by omega) hdd
  have s1 := shl_one d (by omega)
  have hD : 2 ^ d < 18446744073709551616 := Nat.lt_of_le_of_lt (Nat.pow_le_pow_right (by decide) (show d ≤ 63 by omega)) (by decide)
  have hE0 : 0 < 2 ^ d := Nat.pow_pos (by decide)
  have hd63 : d ≤ 63 := by omega
  rw [if_neg hin] at hand
  rw [hdd, Int.toNat_natCast] at e2
  obtain ⟨E, hE⟩ : ∃ E, E = 2 ^ d := ⟨_, rfl⟩
  rw [← hE] at hand s1 hD hE0 e2
  have a1 := bits_and_u64_nat M E hM.1 hD
  rw [hand] at a1
  have t3 : decide ((E : Int) = 0) = false := decide_eq_false (by omega)
  have t4 : ¬ E = 0 := by omega
  have t5 : ¬ (E : Int) = 0 := by omega
  have t6 : ((E : Int) == 0) = false := by simp; omega
  have t7 : ((E : Int) != 0) = true := by simp; omega
  clear hand
  rw [if_pos hf] at e3
  have a2 := bits_or_u64_nat M E hM.1 hD
  obtain ⟨M3, hM3⟩ : ∃ M3, M3 = M ||| E := ⟨_, rfl⟩
  rw [← hM3] at a2 e2
  have hne : x ≠ s.first := fun e => hin (e ▸ ok.fst hl)
  have t2 : decide (fstP s ≤ x) = true := decide_eq_true (by unfold fstP; rw [if_neg (by omega)]; omega)
  clear hE hD hE0 hin hM3 hne hf
  unfold SnO
  rw [ho]
  have HO : Hid (∀ W, Blk W g 50 #[.int .i64 (fstP s), .int .i64 s.last, .int .i64 ((hadS s + 1 : Nat) : Int), .int .u64 (M3 : Int)] → ∃ M', SnP g (addX s x) M' W) := Lib.hid (fun W hW => ⟨M3, by rw [e3, e4, e1]; exact hW, e2, by rw [e1]; intro h; simp only at h; omega⟩)
  generalize addX s x = s' at HO ⊢
  clear hz0 e1 e2 e3 e4
  generalize fstP s = f at *
  generalize s.last = l at *
  generalize hadS s = q at *
  obtain ⟨⟨k0, k1, k2⟩, k3⟩ : (w.cell? ⟨g, 0, none⟩ = some (.int .i64 f) ∧ w.cell? ⟨g, 1, none⟩ = some (.int .i64 l) ∧ w.cell? ⟨g, 2, none⟩ = some (.int .i64 (q : Int))) ∧ w.cell? ⟨g, 3, none⟩ = some (.int .u64 (M : Int)) := ⟨⟨hb.cell 0, hb.cell 1, hb.cell 2⟩, hb.cell 3⟩
  have f0 := hb.frozen 0
  have f1 := hb.frozen 1
  have f2 := hb.frozen 2
  have f3 := hb.frozen 3
  have HB := Lib.hid hb
  have HC := Lib.hid hc
  clear hb hM hc ho hx ok hI
  have y1 : IntKind.i64.wrap (l - x) = (d : Int) := by rw [IntKind.wrap_i64]; omega
  have t0 : decide (l < 0) = false := decide_eq_false (by omega)
  have t1 : decide (l < x) = false := decide_eq_false (by omega)
  clear hdd htop hlow hx1
  go_enter Try.func14, Try.ntmps14
  go_wp2_with fail
  refine (HC.out _).mono ?_
  rintro e w' ⟨rfl, rfl⟩
  clear HC
  go_wp2
  have hF := ((HB.out.set_ 3 (.int .u64 (M3 : Int))).set_ 2 (.int .i64 ((q + 1 : Nat) : Int)))
  simp only [List.setIfInBounds_toArray, List.set_cons_succ, List.set_cons_zero] at hF
  have hO := ((Only.refl g w).trans (Only.set g 3 _ (.int .u64 (M3 : Int)))).trans (Only.set g 2 _ (.int .i64 ((q + 1 : Nat) : Int)))
  go_ret2
  exact ⟨rfl, HO.out _ hF, hO⟩

set_option maxHeartbeats 2000000 in
theorem padd_downs (h : SnP g s M w) (ok : SnOk s m) (hm : m ≤ 1000000) (hl : 0 ≤ s.last) (hxl : x ≤ s.last) (hd : s.last - x ≤ 63) (hin : x ∉ s.L) (hf : ¬ s.first < x) (hx : x = ext16 s.last n) (hx0 : 0 ≤ x) (hx1 : x ≤ s.last + 65536) (hn : n < 65536) (hI : I64 s.last) : Calls Try.prog 14 #[.pointer (some ⟨g, 0, none⟩), .int .u16 (n : Int)] w (SnO g s x w) := by
  have hc := fun W => ext_16 s.last n hI hn W
  rw [← hx] at hc
  obtain ⟨hb, hM, hz0⟩ := h
  have htop := ok.top
  have hlow := ok.low
  have hhad : hadS s ≤ 1000000 := Nat.le_trans (Nat.le_trans (List.countP_le_length) ok.len) hm
  obtain ⟨e1, e2, e3⟩ := mask_down ok hM hl hxl hd hin
  have ho : okX s x = true := okX_iff.2 (.inr (.inr ⟨hd, hin⟩))
  have e4 : fstP (addX s x) = fstP s := by rw [e1]; rfl
  obtain ⟨d, hdd⟩ : ∃ d : Nat, s.last - x = (d : Int) := ⟨(s.last - x).toNat, by omega⟩
  have hand := bit_and ok hM (show d ≤ 63 by omega) hdd
  have s1 := shl_one d (by omega)
  have hD : 2 ^ d < 18446744073709551616 := Nat.lt_of_le_of_lt (Nat.pow_le_pow_right (by decide) (show d ≤ 63 by omega)) (by decide)
  have hE0 : 0 < 2 ^ d := Nat.pow_pos (by decide)
  have hd63 : d ≤ 63 := by omega
  rw [if_neg hin] at hand
  rw [hdd, Int.toNat_natCast] at e2
  obtain ⟨E, hE⟩ : ∃ E, E = 2 ^ d := ⟨_, rfl⟩
  rw [← hE] at hand s1 hD hE0 e2
  have a1 := bits_and_u64_nat M E hM.1 hD
  rw [hand] at a1
  have t3 : decide ((E : Int) = 0) = false := decide_eq_false (by omega)
  have t4 : ¬ E = 0 := by omega
  have t5 : ¬ (E : Int) = 0 := by omega
  have t6 : ((E : Int) == 0) = false := by simp; omega
  have t7 : ((E : Int) != 0) = true := by simp; omega
  clear hand
  rw [if_neg hf, Nat.add_zero] at e3
  have a2 := bits_or_u64_nat M E hM.1 hD
  obtain ⟨M3, hM3⟩ : ∃ M3, M3 = M ||| E := ⟨_, rfl⟩
  rw [← hM3] at a2 e2
  have hne : x ≠ s.first := fun e => hin (e ▸ ok.fst hl)
  have t2 : decide (fstP s ≤ x) = false := decide_eq_false (by unfold fstP; rw [if_neg (by omega)]; omega)
  clear hE hD hE0 hin hM3 hne hf
  unfold SnO
  rw [ho]
  have HO : Hid (∀ W, Blk W g 50 #[.int .i64 (fstP s), .int .i64 s.last, .int .i64 (hadS s : Int), .int .u64 (M3 : Int)] → ∃ M', SnP g (addX s x) M' W) := Lib.hid (fun W hW => ⟨M3, by rw [e3, e4, e1]; exact hW, e2, by rw [e1]; intro h; simp only at h; omega⟩)
  generalize addX s x = s' at HO ⊢
  clear hz0 e1 e2 e3 e4
  generalize fstP s = f at *
  generalize s.last = l at *
  generalize hadS s = q at *
  obtain ⟨⟨k0, k1, k2⟩, k3⟩ : (w.cell? ⟨g, 0, none⟩ = some (.int .i64 f) ∧ w.cell? ⟨g, 1, none⟩ = some (.int .i64 l) ∧ w.cell? ⟨g, 2, none⟩ = some (.int .i64 (q : Int))) ∧ w.cell? ⟨g, 3, none⟩ = some (.int .u64 (M : Int)) := ⟨⟨hb.cell 0, hb.cell 1, hb.cell 2⟩, hb.cell 3⟩
  have f0 := hb.frozen 0
  have f1 := hb.frozen 1
  have f2 := hb.frozen 2
  have f3 := hb.frozen 3
  have HB := Lib.hid hb
  have HC := Lib.hid hc
  clear hb hM hc ho hx ok hI
  have y1 : IntKind.i64.wrap (l - x) = (d : Int) := by rw [IntKind.wrap_i64]; omega
  have t0 : decide (l < 0) = false := decide_eq_false (by omega)
  have t1 : decide (l < x) = false := decide_eq_false (by omega)
  clear hdd htop hlow hx1
  go_enter Try.func14, Try.ntmps14
  go_wp2_with fail
  refine (HC.out _).mono ?_
  rintro e w' ⟨rfl, rfl⟩
  clear HC
  go_wp2
  have hF := (HB.out.set_ 3 (.int .u64 (M3 : Int)))
  simp only [List.setIfInBounds_toArray, List.set_cons_succ, List.set_cons_zero] at hF
  have hO := (Only.refl g w).trans (Only.set g 3 _ (.int .u64 (M3 : Int)))
  go_ret2
  exact ⟨rfl, HO.out _ hF, hO⟩

theorem sadd (h : SnP g s M w) (ok : SnOk s m) (hm : m ≤ 1000000) (hn : n < 65536) : Calls Try.prog 14 #[.pointer (some ⟨g, 0, none⟩), .int .u16 (n : Int)] w (SnO g s (ext16 s.last n) w) := by
  have htop := ok.top
  have hlow := ok.low
  have hI : I64 s.last := by unfold I64; omega
  have hx0 := (ext16_in hI hn).2
  have hx1 := ext16_le hlow (by omega) hn
  by_cases hl : s.last < 0
  · exact padd_first h ok hm hl rfl hx0 hx1 hn hI
  · have hl' : 0 ≤ s.last := by omega
    by_cases hxl : s.last < ext16 s.last n
    · by_cases hd : 63 < ext16 s.last n - s.last
      · exact padd_up63 h ok hm hl' hxl hd rfl hx0 hx1 hn hI
      · exact padd_up h ok hm hl' hxl (by omega) rfl hx0 hx1 hn hI
    · have hxl' : ext16 s.last n ≤ s.last := by omega
      by_cases hd : 63 < s.last - ext16 s.last n
      · exact padd_far h ok hm hl' hxl' hd rfl hx0 hx1 hn hI
      · by_cases hin : ext16 s.last n ∈ s.L
        · exact padd_seen h ok hm hl' hxl' (by omega) hin rfl hx0 hx1 hn hI
        · by_cases hf : s.first < ext16 s.last n
          · exact padd_down h ok hm hl' hxl' (by omega) hin hf rfl hx0 hx1 hn hI
          · exact padd_downs h ok hm hl' hxl' (by omega) hin hf rfl hx0 hx1 hn hI
end
end PS
section
variable {w : World} {G m n : Nat} {s : Sn} {S : Nat → Prop}
theorem sq_add (h : SqAt w G s S) (ok : SnOk s m) (hm : m ≤ 1000000) (hn : n < 65536) : Calls Try.prog 14 #[.pointer (some ⟨G, 0, none⟩), .int .u16 (n : Int)] w (SqOut G s (ext16 s.last n) S w) := by
  obtain ⟨h1, M, h2⟩ := h
  refine (PS.sadd h2 ok hm hn).mono ?_
  rintro e w' ⟨h3, h4, h5⟩
  exact ⟨h3, S, ⟨h1, h4⟩, fun k hk => .inl hk, OnlyS.one h5 ((h1 G).2 rfl)⟩
theorem sq_last (h : SqAt w G s S) : Calls Try.prog 15 #[.pointer (some ⟨G, 0, none⟩)] w (Dn (.int .i64 s.last) w) := by
  obtain ⟨h1, M, hb, hM, hz⟩ := h
  have k1 := hb.cell 1
  simp only [List.getElem?_toArray, List.getElem?_cons_zero, List.getElem?_cons_succ] at k1
  generalize s.last = l at *
  clear hb hM hz
  go_enter Try.func15, Try.ntmps15
  go_wp2
  go_ret
  exact ⟨rfl, 0, rfl⟩
theorem sq_lost (h : SqAt w G s S) (ok : SnOk s m) (hm : m ≤ 1000000) : Calls Try.prog 16 #[.pointer (some ⟨G, 0, none⟩)] w (Dn (.int .i64 (lostS s)) w) := by
  have e : lostS s = s.last - fstP s + 1 - (hadS s : Int) := by
    unfold lostS fstP
    by_cases hl : s.last < 0
    · rw [if_pos hl, if_pos hl, ok.none hl]
      rfl
    · rw [if_neg hl, if_neg hl]
  have htop := ok.top
  have hlow := ok.low
  have hfl := ok.firstLo
  have hff : -1 ≤ fstP s ∧ fstP s ≤ s.last + 1 := by unfold fstP; split <;> omega
  have hhad : hadS s ≤ 1000000 := Nat.le_trans (Nat.le_trans (List.countP_le_length) ok.len) hm
  obtain ⟨h1, M, hb, hM, hz⟩ := h
  obtain ⟨⟨k0, k1⟩, k2⟩ : (w.cell? ⟨G, 0, none⟩ = some (.int .i64 (fstP s)) ∧ w.cell? ⟨G, 1, none⟩ = some (.int .i64 s.last)) ∧ w.cell? ⟨G, 2, none⟩ = some (.int .i64 (hadS s : Int)) := ⟨⟨hb.cell 0, hb.cell 1⟩, hb.cell 2⟩
  rw [e]
  clear e hb hM hz hfl ok
  generalize fstP s = f at *
  generalize s.last = l at *
  generalize hadS s = q at *
  have k0d : ∀ j, (w.drewN j).cell? ⟨G, 0, none⟩ = some (.int .i64 f) := fun _ => k0
  have k1d : ∀ j, (w.drewN j).cell? ⟨G, 1, none⟩ = some (.int .i64 l) := fun _ => k1
  have k2d : ∀ j, (w.drewN j).cell? ⟨G, 2, none⟩ = some (.int .i64 (q : Int)) := fun _ => k2
  have y1 : IntKind.i64.wrap (l - f) = l - f := by rw [IntKind.wrap_i64]; omega
  have y2 : IntKind.i64.wrap (l - f + 1) = l - f + 1 := by rw [IntKind.wrap_i64]; omega
  have y3 : IntKind.i64.wrap (l - f + 1 - (q : Int)) = l - f + 1 - (q : Int) := by rw [IntKind.wrap_i64]; omega
  clear htop hhad hff
  go_enter Try.func16, Try.ntmps16
  go_upto_region 1 with (fail)
  go_quiet (fail)
  go_wp2
  go_ret
  exact ⟨rfl, nq, rfl⟩
end
end Go.Proofs.Ytmkbbndfdgnakaa
