/- Contracts of octet's small functions and of Within, over the seat's translation. -/
import Derived.Test.YtpcaanedplbeoaaOctP
namespace Go.Proofs.Ytpcaanedplbeoaa
open Go.RowKit
set_option linter.unusedVariables false
set_option linter.unusedSimpArgs false

def szB (n : Int) : Bool := decide (1 ≤ n ∧ n ≤ 8)
def thB (len : Nat) (at' n : Int) : Bool := decide (0 ≤ at' ∧ 0 ≤ n ∧ n ≤ (len : Int) - at')

/-- An int's range, behind a name. -/
def I64 (n : Int) : Prop := -9223372036854775808 ≤ n ∧ n ≤ 9223372036854775807
theorem I64.of_wf {n : Int} (h : (Lit.int .i64 n).wf = true) : I64 n := by
  simpa [Lit.wf, IntKind.min, IntKind.max, IntKind.signed, IntKind.bits, I64] using h
theorem wrap_i64 {n : Int} (h : I64 n) : wrap64 n = n := by
  unfold I64 at h
  unfold wrap64
  omega

theorem sized_any (n : Int) (w : World) :
    Calls Try.prog 19 #[.int .i64 n] w fun e w' => e = .returned (.bool (szB n)) ∧ w = w' := by
  by_cases h1 : 1 ≤ n
  · by_cases h2 : n ≤ 8
    · have hs : szB n = true := by simp [szB, h1, h2]
      go_enter Try.func19, Try.ntmps19
      go_wp2
      go_ret
      simp [hs]
    · have hs : szB n = false := by simp [szB]; omega
      go_enter Try.func19, Try.ntmps19
      go_wp2
      go_ret
      simp [hs]
  · have hs : szB n = false := by simp [szB]; omega
    go_enter Try.func19, Try.ntmps19
    go_wp2
    go_ret
    simp [hs]

theorem there_any (A : Option Addr) (l c : Nat) (at' n : Int) (w : World) (ha : I64 at') (hl : l ≤ 281474976710656) :
    Calls Try.prog 21 #[.slice A l c, .int .i64 at', .int .i64 n] w fun e w' => e = .returned (.bool (thB l at' n)) ∧ w = w' := by
  have hw : wrap64 ((l : Int) - at') = (l : Int) - at' ∨ ¬ 0 ≤ at' := by
    by_cases h : 0 ≤ at'
    · left; exact wrap_i64 (by unfold I64 at *; omega)
    · exact Or.inr h
  by_cases h1 : 0 ≤ at'
  · have hw' := Lib.hid (hw.resolve_right (by omega)); clear hw
    by_cases h2 : 0 ≤ n
    · by_cases h3 : n ≤ (l : Int) - at'
      · have hs : thB l at' n = true := by simp [thB]; omega
        go_enter Try.func21, Try.ntmps21
        go_wp2
        all_goals go_ret
        all_goals simp [hs]
      · have hs : thB l at' n = false := by simp [thB]; omega
        go_enter Try.func21, Try.ntmps21
        go_wp2
        all_goals go_ret
        all_goals simp [hs, hw'.out]; omega
    · have hs : thB l at' n = false := by simp [thB]; omega
      go_enter Try.func21, Try.ntmps21
      go_wp2
      go_ret
      simp [hs]
  · clear hw
    have hs : thB l at' n = false := by simp [thB]; omega
    go_enter Try.func21, Try.ntmps21
    go_wp2
    go_ret
    simp [hs]

/-- Within: some number of the range. -/
def InR (lo hi : Int) (w : World) (e : Ending) (w' : World) : Prop := ∃ r : Int, e = .returned (.int .i64 r) ∧ lo ≤ r ∧ r ≤ hi ∧ w = w'
theorem within_any (x lo hi : Int) (w : World) (hx : I64 x) (h0 : 0 ≤ lo) (h1 : lo ≤ hi) (h2 : hi ≤ 281474976710656) :
    Calls Try.prog 10 #[.int .i64 x, .int .i64 lo, .int .i64 hi] w (InR lo hi w) := by
  by_cases c1 : lo ≤ x ∧ x ≤ hi
  · obtain ⟨c1, c2⟩ := c1
    go_enter Try.func10, Try.ntmps10
    go_wp2
    go_ret
    exact ⟨x, rfl, c1, c2, rfl⟩
  · have m1 := Int.lt_tmod_of_pos x (show 0 < hi - lo + 1 by omega)
    have m2 := Int.tmod_lt_of_pos x (show 0 < hi - lo + 1 by omega)
    have m3 := Int.emod_nonneg x (show hi - lo + 1 ≠ 0 by omega)
    have m4 := Int.emod_lt_of_pos x (show 0 < hi - lo + 1 by omega)
    by_cases c2 : lo ≤ x
    all_goals
      go_enter Try.func10, Try.ntmps10
      go_wp2
    all_goals go_ret
    all_goals exact ⟨_, rfl, by omega, by omega, rfl⟩

/-- A new slice of length m, its block known whole. -/
def NewAt (w : World) (m : Nat) (l : List UInt8) (e : Ending) (w' : World) : Prop :=
  ∃ g, e = .returned (.slice (some ⟨g, 0, none⟩) m m) ∧ Len l m ∧ Blk w' g 5 (l.map bv).toArray ∧ w.heap.size ≤ g ∧ Below w.heap.size w w'
def New8 (w : World) (l : List UInt8) (e : Ending) (w' : World) : Prop :=
  ∃ g m, e = .returned (.slice (some ⟨g, 0, none⟩) m m) ∧ Len l m ∧ Blk w' g 5 (l.map bv).toArray ∧ w.heap.size ≤ g ∧ Below w.heap.size w w'
theorem NewAt.new {w w' : World} {m : Nat} {l : List UInt8} {e : Ending} (h : NewAt w m l e w') : New8 w l e w' := by
  obtain ⟨g, h1, h2, h3⟩ := h
  exact ⟨g, m, h1, h2, h3⟩
theorem New8.out {w w' : World} {l : List UInt8} {e : Ending} (h : New8 w l e w') : Out8 w l e w' := by
  obtain ⟨g, m, he, hm, hb, hg, hw⟩ := h
  exact ⟨_, _, _, he, hb.r8 hm (Nat.le_refl _), hw⟩

theorem u8_info : (Try.prog.info? 5).map (fun i => (i.zero, i.size, i.bytes)) = some (some (.int .u8 0), 1, 1) := by kernel_rfl
/-- So many noughts (a name that the walk does not look behind). -/
def zl (n : Nat) : List Value := (List.replicate n (0 : UInt8)).map bv
theorem made_u8 (n : Nat) : madeCells #[Value.int .u8 0] n = (zl n).toArray := by
  unfold zl
  apply Array.ext
  · simp [madeCells]
  · intro i h1 h2
    have : i % 1 = 0 := Nat.mod_one i
    simp [madeCells, bv, this]
theorem run_make8 (n : Nat) (hn : n ≤ 281474976710656) (w : World) :
    (Instr.makeSlice 22 (.int .i64 (n : Int)) (.int .i64 (n : Int))).run Try.prog w = .ok (.slice (some ⟨w.heap.size, 0, none⟩) n n) (w.alloc (.cells (zl n).toArray 5)) := by
  obtain ⟨i0, hi0, hz0, hz1, hz2⟩ := info_parts u8_info
  have h := run_make (P := Try.prog) w 22 5 i0 _ Try.underlying22 hi0 hz0 .i64 .i64 n n (by omega) (by omega) (by rw [hz2]; omega) (by omega)
  rw [h, hz1]
  simp only [Value.cells, Int.toNat_natCast, Nat.mul_one, made_u8]

theorem longer_at (A : Option Addr) (n c k : Nat) (l : List UInt8) (w : World) (h : R8 w w.heap.size A n c l) (hn : n + k ≤ 281474976710656) :
    Calls Try.prog 20 #[.slice A n c, .int .i64 (k : Int)] w (NewAt w (n + k) (l ++ List.replicate k 0)) := by
  have hmk := fun W => run_make8 (n + k) hn W
  rw [show ((n + k : Nat) : Int) = (n : Int) + (k : Int) by omega] at hmk
  have hblk : ∀ W : World, (W.alloc (.cells (zl (n + k)).toArray 5)).heap[W.heap.size]? = some (.cells (zl (n + k)).toArray 5 (0, 0)) := fun W => Blk.new W 5 (zl (n + k)).toArray
  have HS := Lib.hid (fun (W : World) (hW : Below w.heap.size w W) => (h.below hW).src)
  have HL := Lib.hid (show (l.map bv).length = Nat.min n (n + k) by simp [h.1])
  have HF := Lib.hid (show 0 + (l.map bv).length ≤ (zl (n + k)).length by simp [h.1, zl])
  have HE := Lib.hid (show (l ++ List.replicate k (0 : UInt8)).length = n + k by simp [h.1])
  have HB := Lib.hid (show splice (zl (n + k)) 0 (l.map bv) = (l ++ List.replicate k (0 : UInt8)).map bv by
    simp [splice, zl, h.1])
  go_enter Try.func20, Try.ntmps20
  go_wp2_with (with_reducible refine wpList_copy_splice rfl (.tmp 11) (.tmp 12) 22 22 rfl 5 Try.underlying22 (by kernel_rfl) _ _ _ _ _ _ rfl rfl w.heap.size 0 (zl (n + k)) 5 (hblk _) (l.map bv) HL.out (fun hp => ⟨rfl, HS.out _ ((Below.refl _ _).alloc (Nat.le_refl _) _) hp⟩) HF.out (bv_one l) w.heap.size w ((Below.refl _ _).alloc (Nat.le_refl _) _) (Nat.le_refl _) ?_; intro w2 hg2 hb2)
  go_ret
  refine ⟨w.heap.size, rfl, HE.out, ?_, Nat.le_refl _, hb2⟩
  have := hg2.out
  rw [HB.out] at this
  exact this

theorem u8_size : (Try.prog.info? 5).map (·.size) = some 1 := by kernel_rfl
theorem longer_any (A : Option Addr) (n c k : Nat) (l : List UInt8) (w : World) (h : R8 w w.heap.size A n c l) (hn : n + k ≤ 281474976710656) :
    Calls Try.prog 20 #[.slice A n c, .int .i64 (k : Int)] w (New8 w (l ++ List.replicate k 0)) :=
  (longer_at A n c k l w h hn).mono fun _ _ h => h.new
theorem longer_zero (A : Option Addr) (n c : Nat) (l : List UInt8) (w : World) (h : R8 w w.heap.size A n c l) (hn : n ≤ 281474976710656) :
    Calls Try.prog 20 #[.slice A n c, .int .i64 0] w (New8 w l) := by
  have := longer_any A n c 0 l w h (by omega)
  simpa using this

/-- Cut, where the place is there. -/
theorem cut_yes (A : Option Addr) (n c : Nat) (l : List UInt8) (w : World) (h : R8 w w.heap.size A n c l) (hn : n ≤ 140737488355328) (i k : Nat) (ht : i + k ≤ n) :
    Calls Try.prog 14 #[.slice A n c, .int .i64 i, .int .i64 k] w (Out8b w ((l.drop i).take k) true) := by
  have hc := h.2.1
  have hi : I64 i := by unfold I64; omega
  have ht' : thB n i k = true := by simp [thB]; omega
  have hcut := fun W => run_cut (P := Try.prog) 22 5 Try.underlying22 u8_size A n c .i64 .i64 i (i + k) (by omega) (by omega) (by omega) W
  have hr := h.cut i (i + k) (by omega) ht
  have e1 : i + k - i = k := by omega
  have e2 : ((i : Int) + (k : Int)).toNat = i + k := by omega
  simp only [e1, e2, Int.toNat_natCast] at hcut hr
  clear e1 e2
  go_enter Try.func14, Try.ntmps14
  go_wp2_with (first | (go_at_call 21; refine (there_any _ _ _ _ _ _ hi (by omega)).mono ?_; rintro e w' ⟨rfl, rfl⟩) | (go_at_call 20; refine (longer_zero _ _ _ _ _ hr (by omega)).mono ?_; rintro e w' ⟨g, m, rfl, hm, hg, hgb, hb⟩))
  go_ret2
  exact ⟨_, _, _, rfl, hg.r8 hm (Nat.le_refl _), hb⟩
theorem cut_no (A : Option Addr) (n c : Nat) (w : World) (hn : n ≤ 140737488355328) (i k : Int) (hi : I64 i) (ht : thB n i k = false) :
    Calls Try.prog 14 #[.slice A n c, .int .i64 i, .int .i64 k] w fun e w' => e = .returned (.tuple #[.slice none 0 0, .bool false]) ∧ w = w' := by
  go_enter Try.func14, Try.ntmps14
  go_wp2_with (first | (go_at_call 21; refine (there_any _ _ _ _ _ _ hi (by omega)).mono ?_; rintro e w' ⟨rfl, rfl⟩))
  go_ret2
  exact ⟨rfl, rfl⟩

theorem pad_any (A : Option Addr) (n c : Nat) (l : List UInt8) (w : World) (h : R8 w w.heap.size A n c l) (hn : n ≤ 140737488355328) (t : Int) :
    Calls Try.prog 13 #[.slice A n c, .int .i64 t] w (New8 w (l ++ List.replicate (padN n t) 0)) := by
  by_cases h1 : 1 ≤ t
  · by_cases h2 : t ≤ 64
    · obtain ⟨k, rfl⟩ := Int.eq_ofNat_of_zero_le (show 0 ≤ t by omega)
      have hk := Nat.mod_lt n (show 0 < k by omega)
      have g1 : decide ((k : Int) < 1) = false := by simp; omega
      have g2 : decide ((64 : Int) < (k : Int)) = false := by simp; omega
      by_cases h3 : n % k = 0
      · have hp : padN n k = 0 := by simp [padN, h3]
        rw [hp, List.replicate_zero, List.append_nil]
        have h3' : ((n : Int) % (k : Int) == 0) = true := by simp; omega
        clear hp h3
        go_enter Try.func13, Try.ntmps13
        go_wp2_with (first | (go_at_call 20; refine (longer_zero _ _ _ _ _ h (by omega)).mono ?_; rintro e w' ⟨g, m, rfl, hm, hg, hgb, hb⟩))
        go_ret
        exact ⟨_, _, rfl, hm, hg, hgb, hb⟩
      · have hp : padN n k = k - n % k := by
          simp [padN, h1, h2]
          rw [Nat.mod_eq_of_lt (by omega)]
        rw [hp]
        have h3' : ((n : Int) % (k : Int) == 0) = false := by simp; omega
        have e1 : ((k : Int) - (n : Int) % (k : Int)) = ((k - n % k : Nat) : Int) := by omega
        have hl := fun (w' : World) hh => longer_any A n c (k - n % k) l w' hh (by omega)
        rw [← e1] at hl
        have hl := Lib.hid (hl w h)
        clear hp h3 e1
        go_enter Try.func13, Try.ntmps13
        go_wp2_with (first | (go_at_call 20; refine hl.out.mono ?_; rintro e w' ⟨g, m, rfl, hm, hg, hgb, hb⟩))
        go_ret
        exact ⟨_, _, rfl, hm, hg, hgb, hb⟩
    · have hp : padN n t = 0 := by simp [padN]; omega
      rw [hp, List.replicate_zero, List.append_nil]
      have g2 : decide ((64 : Int) < t) = true := by simp; omega
      clear hp
      go_enter Try.func13, Try.ntmps13
      go_wp2_with (first | (go_at_call 20; refine (longer_zero _ _ _ _ _ h (by omega)).mono ?_; rintro e w' ⟨g, m, rfl, hm, hg, hgb, hb⟩))
      go_ret
      exact ⟨_, _, rfl, hm, hg, hgb, hb⟩
  · have hp : padN n t = 0 := by simp [padN]; omega
    rw [hp, List.replicate_zero, List.append_nil]
    have g2 : decide (t < 1) = true := by simp; omega
    clear hp
    go_enter Try.func13, Try.ntmps13
    go_wp2_with (first | (go_at_call 20; refine (longer_zero _ _ _ _ _ h (by omega)).mono ?_; rintro e w' ⟨g, m, rfl, hm, hg, hgb, hb⟩))
    go_ret
    exact ⟨_, _, rfl, hm, hg, hgb, hb⟩
end Go.Proofs.Ytpcaanedplbeoaa
