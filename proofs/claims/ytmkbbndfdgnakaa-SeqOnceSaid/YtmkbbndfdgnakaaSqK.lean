/- Law 15's helpers: same, known; what holds of a Seen between calls. -/
import Derived.Test.YtmkbbndfdgnakaaSqI
import Derived.Test.YtmkbbndfdgnakaaSqR
import Derived.Test.YtmkbbndfdgnakaaSqRs
import Derived.BigQuiet
import Derived.Deep.QuietTactic
namespace Go.Proofs.Ytmkbbndfdgnakaa
open Go.RowKit
set_option linter.unusedVariables false
set_option linter.unusedSimpArgs false
set_option maxRecDepth 20000

/-- The project's Seen alone; its blocks were made since w0. -/
structure Sq1 (w0 : World) (G : Nat) (s : Sn) (m : Nat) (S : Nat → Prop) (W : World) : Prop where
  sq : SqAt W G s S
  ok : SnOk s m
  lo : ∀ k, S k → w0.heap.size ≤ k
  below : Below w0.heap.size w0 W
section
variable {w0 W W' : World} {G m : Nat} {s : Sn} {S : Nat → Prop} {e : Ending} {x : Int}
theorem Sq1.on (h : Sq1 w0 G s m S W) (hb : Below W.heap.size W W') : Sq1 w0 G s m S W' :=
  ⟨h.sq.keep (OnlyS.of (S := fun _ => False) hb) (fun _ _ h => h), h.ok, h.lo, h.below.trans (hb.mono h.below.size)⟩
theorem Sq1.out (h : Sq1 w0 G s m S W) {n : Nat} (ho : SqOut G s (ext16 s.last n) S W e W') (hm : m ≤ 1000000) (hn : n < 65536) : e = .returned (.tuple #[.int .i64 (ext16 s.last n), .bool (okS s n)]) ∧ ∃ S', Sq1 w0 G (addS s n) (m + 1) S' W' := by
  obtain ⟨h1, S', h2, h3, h4⟩ := ho
  exact ⟨h1, S', h2, addS_ok h.ok hm hn, fun k hk => by
    rcases h3 k hk with h5 | h5
    · exact h.lo k h5
    · exact Nat.le_trans h.below.size h5, h.below.trans (h4.below h.lo h.below.size)⟩
end
theorem same15_any (last : Int) (n k : Nat) (hl : I64 last) (hn : n < 65536) (hk : k < 4294967296) (w : World) : Calls Try.prog 8 #[.int .i64 last, .int .u16 (n : Int), .int .u32 (k : Int)] w (fun e w' => e = .returned (.bool true) ∧ Below w.heap.size w w') := by
  have h1 := fun W => sq_extend last n hl hn W
  have h2 := fun W => ref_extend last n hl hn W
  have h3 := fun W => sq_stamp last k hl hk W
  have h4 := fun W => ref_stamp last k hl hk W
  generalize ext16 last n = x at h1 h2
  generalize ext32 last k = y at h3 h4
  have H := Lib.hid (⟨h1, h2, h3, h4⟩ : _ ∧ _ ∧ _ ∧ _)
  clear h1 h2 h3 h4 hl hn hk
  go_enter Try.func8, Try.ntmps8
  go_wp2_with fail
  refine (H.out.1 _).mono ?_
  rintro e w1 ⟨rfl, m1, hm1⟩
  go_wp2_with fail
  refine (H.out.2.1 _).mono ?_
  rintro e w2 ⟨rfl, rfl⟩
  go_wp2_with fail
  refine (H.out.2.2.1 _).mono ?_
  rintro e w3 ⟨rfl, m3, hm3⟩
  go_wp2_with fail
  refine (H.out.2.2.2 _).mono ?_
  rintro e w4 ⟨rfl, rfl⟩
  go_wp2_with fail
  go_ret
  refine ⟨rfl, ?_⟩
  subst hm3
  subst hm1
  exact belowDrewN w (m1 + m3)
theorem sq_extend_at {last : Int} {n : Nat} {K x : Int} (hK : (n : Int) = K) (hl : I64 last) (hn : n < 65536) (hx : ext16 last n = x) (w : World) : Calls Try.prog 11 #[.int .i64 last, .int .u16 K] w (Dn (.int .i64 x) w) := by
  subst hK
  subst hx
  exact sq_extend last n hl hn w
theorem sq_stamp_at {last : Int} {n : Nat} {K x : Int} (hK : (n : Int) = K) (hl : I64 last) (hn : n < 4294967296) (hx : ext32 last n = x) (w : World) : Calls Try.prog 12 #[.int .i64 last, .int .u32 K] w (Dn (.int .i64 x) w) := by
  subst hK
  subst hx
  exact sq_stamp last n hl hn w
theorem sq_add_at {w0 W : World} {G m : Nat} {s : Sn} {S : Nat → Prop} (h : Sq1 w0 G s m S W) {n : Nat} {K x : Int} {s' : Sn} {b : Bool} (hm : m ≤ 1000000) (hn : n < 65536) (hK : (n : Int) = K) (hx : ext16 s.last n = x) (hs : addS s n = s') (hb : okS s n = b) :
    Calls Try.prog 14 #[.pointer (some ⟨G, 0, none⟩), .int .u16 K] W (fun e W' => e = .returned (.tuple #[.int .i64 x, .bool b]) ∧ ∃ S', Sq1 w0 G s' (m + 1) S' W') := by
  subst hK
  subst hx
  subst hs
  subst hb
  exact (sq_add h.sq h.ok hm hn).mono fun e w' ho => h.out ho hm hn
theorem sq_lost_at {w0 W : World} {G m : Nat} {s : Sn} {S : Nat → Prop} (h : Sq1 w0 G s m S W) {x : Int} (hm : m ≤ 1000000) (hx : lostS s = x) : Calls Try.prog 16 #[.pointer (some ⟨G, 0, none⟩)] W (Dn (.int .i64 x) W) := by
  subst hx
  exact sq_lost h.sq h.ok hm
theorem i64_small {x : Int} (h1 : -9223372036854775808 ≤ x) (h2 : x ≤ 9223372036854775807) : I64 x := by unfold I64; omega
def kA : Sn := ⟨65535, 65535, [65535]⟩
def kB : Sn := ⟨65535, 65537, [65535, 65537]⟩
def kC : Sn := ⟨65535, 65537, [65535, 65537, 65536]⟩
theorem k_a : addS newS 65535 = kA := by rfl
theorem k_b : addS kA 1 = kB := by rfl
theorem k_c : addS kB 1 = kB := by rfl
theorem k_d : addS kB 0 = kC := by rfl
set_option maxHeartbeats 4000000 in
theorem known15_any (w : World) : Calls Try.prog 10 #[] w (Yes w) := by
  go_enter Try.func10, Try.ntmps10
  go_wp2_with fail
  refine (sq_new _).mono ?_
  rintro e w1 ⟨G, S, rfl, p0, hS, b0⟩
  have H1 : Hid (Sq1 w G newS 0 S w1) := Lib.hid ⟨p0, newS_ok, hS, b0⟩
  clear p0 hS b0
  go_wp2_with fail
  refine (sq_last H1.out.sq).mono ?_
  rintro e w2 ⟨rfl, m2, hm2⟩
  have H2 : Hid (Sq1 w G newS 0 S w2) := Lib.hid (by subst hm2; exact H1.out.on (belowDrewN _ _))
  clear hm2 H1
  go_wp2_with fail
  ((with_reducible refine (sq_add_at H2.out (n := 65535) (K := 65535) (x := 65535) (s' := kA) (b := true) (by omega) (by omega) rfl (by decide) k_a (by decide)).mono ?_); rintro e w3 ⟨rfl, S3, h3⟩)
  have H3 := Lib.hid h3
  clear h3 H2
  go_wp2_with fail
  ((with_reducible refine (sq_add_at H3.out (n := 1) (K := 1) (x := 65537) (s' := kB) (b := true) (by omega) (by omega) rfl (by decide) k_b (by decide)).mono ?_); rintro e w4 ⟨rfl, S4, h4⟩)
  have H4 := Lib.hid h4
  clear h4 H3
  go_wp2_with fail
  ((with_reducible refine (sq_add_at H4.out (n := 1) (K := 1) (x := 65537) (s' := kB) (b := false) (by omega) (by omega) rfl (by decide) k_c (by decide)).mono ?_); rintro e w5 ⟨rfl, S5, h5⟩)
  have H5 := Lib.hid h5
  clear h5 H4
  go_wp2_with fail
  ((with_reducible refine (sq_add_at H5.out (n := 0) (K := 0) (x := 65536) (s' := kC) (b := true) (by omega) (by omega) rfl (by decide) k_d (by decide)).mono ?_); rintro e w6 ⟨rfl, S6, h6⟩)
  have H6 := Lib.hid h6
  clear h6 H5
  go_wp2_with fail
  ((with_reducible refine (sq_extend_at (last := 65535) (n := 0) (K := 0) (x := 65536) rfl (i64_small (by omega) (by omega)) (by omega) (by decide) _).mono ?_); rintro e w7 ⟨rfl, m7, hm7⟩)
  have H7 : Hid (Sq1 w G kC 4 S6 w7) := Lib.hid (by subst hm7; exact H6.out.on (belowDrewN _ _))
  clear hm7 H6
  go_wp2_with fail
  ((with_reducible refine (sq_extend_at (last := -1) (n := 7) (K := 7) (x := 7) rfl (i64_small (by omega) (by omega)) (by omega) (by decide) _).mono ?_); rintro e w8 ⟨rfl, m8, hm8⟩)
  have H8 : Hid (Sq1 w G kC 4 S6 w8) := Lib.hid (by subst hm8; exact H7.out.on (belowDrewN _ _))
  clear hm8 H7
  go_wp2_with fail
  ((with_reducible refine (sq_extend_at (last := 5) (n := 65535) (K := 65535) (x := 65535) rfl (i64_small (by omega) (by omega)) (by omega) (by decide) _).mono ?_); rintro e w9 ⟨rfl, m9, hm9⟩)
  have H9 : Hid (Sq1 w G kC 4 S6 w9) := Lib.hid (by subst hm9; exact H8.out.on (belowDrewN _ _))
  clear hm9 H8
  go_wp2_with fail
  ((with_reducible refine (sq_extend_at (last := 70000) (n := 65535) (K := 65535) (x := 65535) rfl (i64_small (by omega) (by omega)) (by omega) (by decide) _).mono ?_); rintro e w10 ⟨rfl, m10, hm10⟩)
  have H10 : Hid (Sq1 w G kC 4 S6 w10) := Lib.hid (by subst hm10; exact H9.out.on (belowDrewN _ _))
  clear hm10 H9
  go_wp2_with fail
  ((with_reducible refine (sq_stamp_at (last := 4294967296) (n := 4294967295) (K := 4294967295) (x := 4294967295) rfl (i64_small (by omega) (by omega)) (by omega) (by decide) _).mono ?_); rintro e w11 ⟨rfl, m11, hm11⟩)
  have H11 : Hid (Sq1 w G kC 4 S6 w11) := Lib.hid (by subst hm11; exact H10.out.on (belowDrewN _ _))
  clear hm11 H10
  go_wp2_with fail
  ((with_reducible refine (sq_last H11.out.sq).mono ?_); rintro e w12 ⟨rfl, m12, hm12⟩)
  have H12 : Hid (Sq1 w G kC 4 S6 w12) := Lib.hid (by subst hm12; exact H11.out.on (belowDrewN _ _))
  clear hm12 H11
  go_wp2_with fail
  ((with_reducible refine (sq_lost_at H12.out (x := 0) (by omega) (by decide)).mono ?_); rintro e w13 ⟨rfl, m13, hm13⟩)
  have b13 : Below w.heap.size w w13 := by subst hm13; exact (H12.out.on (belowDrewN _ _)).below
  clear hm13 H12
  go_wp2_with fail
  go_ret
  exact ⟨rfl, b13⟩
end Go.Proofs.Ytmkbbndfdgnakaa
