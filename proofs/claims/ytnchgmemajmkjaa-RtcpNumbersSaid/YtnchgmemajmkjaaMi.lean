/- Contracts: slices.Grow of no bytes, slices.Concat of three rows of bytes. Contract: slices.Concat of two rows of bytes. Contract: rtcp.bytesOf. Contracts: limelightref6.Bytes. Contract: rtcp.Bytes. -/
import Derived.Test.YtnchgmemajmkjaaBase
import Derived.Lib.AppendZerosOnto
import Derived.Lib.SliceRun
import Derived.Lib.Walk
import Derived.Test.YtnchgmemajmkjaaMk
import Derived.Test.YtnchgmemajmkjaaRcO
import Derived.Test.YtnchgmemajmkjaaPcF
namespace Go.Proofs.Ytnchgmemajmkjaa
open Go.RowKit
set_option linter.unusedVariables false
set_option linter.unusedSimpArgs false
set_option maxRecDepth 20000

theorem own8_cap (w : World) (g cap : Nat) (cur : Array Value) (base : Nat) (hb : base ≤ g) (hg : w.heap[g]? = some (.cells cur 5 (0, 0))) (hc : cap ≤ maxLen) (hs : cur.size = cap) : Own8 w base (.slice (some ⟨g, 0, none⟩) 0 cap) [] :=
  ⟨rfl, .inr ⟨g, cap, cur, rfl, hb, hg, Nat.zero_le _, hc, by omega, by simp⟩⟩
/-- What Grow leaves of no bytes: a row of its own, still empty. -/
def GrowOut (w : World) (e : Ending) (w' : World) : Prop := ∃ v, e = .returned v ∧ Own8 w' w.heap.size v [] ∧ Below w.heap.size w w'
set_option maxHeartbeats 1000000 in
theorem grow_nil (n : Nat) (w : World) (hn : n ≤ 1000000) :
    Calls Try.prog 59 #[.slice none 0 0, .int .i64 (n : Int)] w (GrowOut w) := by
  have h1 : ¬ ((n : Int) < 0) := by omega
  by_cases h0 : n = 0
  · subst h0
    go_enter Try.func59, Try.ntmps59
    go_wp2
    go_ret
    exact ⟨_, rfl, ⟨rfl, .inl ⟨rfl, rfl⟩⟩, Below.refl _ _⟩
  · obtain ⟨i0, hi0, hz0, hz1, hz2⟩ := info_parts u8_info
    have h4 : (n : Int) > 0 := by omega
    have hold : (Builtin.firstCells i0.size 0 (.slice none 0 0)).run Try.prog w.drew = .ok ([] : List Value).toArray w.drew := run_firstCells_none w.drew i0.size 0 0 0
    have hrz := Lib.run_append_grow_zeros (P := Try.prog) w 31 3 31 5 i0 _ .i64 .i64 Try.underlying31 Try.underlying3 hi0 hz0 none 0 0 [] hold n (by omega) (by omega) (by omega) (by omega) (by rw [hz2]; omega)
      (by rw [hz2]; exact growslice_fits (by omega) (by omega))
    simp only [Nat.zero_add] at hrz
    have hGn : n ≤ grownCap w n 0 5 := grownCap_ge w _ _ _
    have hGm := grownCap_le_maxLen w n 0 5 (by unfold maxLen; omega)
    obtain ⟨G, hG⟩ : ∃ G, G = grownCap w n 0 5 := ⟨_, rfl⟩
    rw [← hG] at hrz hGn hGm
    have hsz : ((([] : List Value).toArray ++ Builtin.zeroCells (Value.int .u8 0).cells n) ++ Builtin.zeroCells (Value.int .u8 0).cells (G - n)).size = G := by
      simp [Builtin.zeroCells, Value.cells]
      omega
    generalize (([] : List Value).toArray ++ Builtin.zeroCells (Value.int .u8 0).cells n) ++ Builtin.zeroCells (Value.int .u8 0).cells (G - n) = cs at hrz hsz
    have hGm' : G ≤ 9223372036854775807 := by unfold maxLen at hGm; omega
    have hsh := Lib.hid hsz
    have hGh := Lib.hid hGm
    clear hold hG hsz hGm hi0 hz0 hz1 hz2 h0
    go_enter Try.func59, Try.ntmps59
    go_wp2_with (at_builtin; refine Lib.wpList_append_run _ rfl _ _ _ _ rfl _ _ rfl rfl _ _ hrz ?_)
    go_ret
    refine ⟨_, rfl, own8_cap _ _ _ cs _ (Nat.le_refl _) (heap_alloc_new w.drew _) hGh.out hsh.out, ?_⟩
    exact (Below.refl w.heap.size w).drew.alloc (Nat.le_refl _) _
set_option maxHeartbeats 4000000 in
/-- Three rows, one behind the other, in a row of its own. -/
theorem concat3 (g : Nat) (A1 A2 A3 : Option Addr) (n1 c1 n2 c2 n3 c3 : Nat) (l1 l2 l3 : List UInt8) (w : World) (hg : g < w.heap.size)
    (k0 : w.cell? ⟨g, 0, none⟩ = some (.slice A1 n1 c1)) (k1 : w.cell? ⟨g, 1, none⟩ = some (.slice A2 n2 c2)) (k2 : w.cell? ⟨g, 2, none⟩ = some (.slice A3 n3 c3))
    (h1 : R8 w w.heap.size A1 n1 c1 l1) (h2 : R8 w w.heap.size A2 n2 c2 l2) (h3 : R8 w w.heap.size A3 n3 c3 l3) (hn : n1 + n2 + n3 ≤ 1000000) :
    Calls Try.prog 41 #[.slice (some ⟨g, 0, none⟩) 3 3] w fun e w' => ∃ v, e = .returned v ∧ Own8 w' w.heap.size v (l1 ++ (l2 ++ l3)) ∧ Below w.heap.size w w' := by
  have m1 := Lib.hid h1.1
  have m2 := Lib.hid h2.1
  have m3 := Lib.hid h3.1
  go_enter Try.func41, Try.ntmps41
  go_wp2_with fail
  go_loop [3, 5, 11] (fun s _ i => (i = .int .i64 0 ∧ s = .int .i64 0) ∨ (i = .int .i64 1 ∧ s = .int .i64 (n1 : Int)) ∨ (i = .int .i64 2 ∧ s = .int .i64 ((n1 + n2 : Nat) : Int)) ∨ (i = .int .i64 3 ∧ s = .int .i64 ((n1 + n2 + n3 : Nat) : Int))) (fun _ _ i => 3 - (intOf i).toNat)
  case atStart => exact .inl ⟨rfl, rfl⟩
  case round =>
    rcases hrel with ⟨rfl, rfl⟩ | ⟨rfl, rfl⟩ | ⟨rfl, rfl⟩ | ⟨rfl, rfl⟩
    · clear k1 k2 h1 h2 h3
      have g0 : ¬ ((n1 : Int) < 0) := by omega
      go_wp2_with fail
      go_round
      case rel => exact .inr (.inl ⟨rfl, rfl⟩)
      case measure => decide
    · clear k0 k2 h1 h2 h3
      have g0 : ¬ ((n1 : Int) + (n2 : Int) < 0) := by omega
      go_wp2_with fail
      go_round
      case rel => exact .inr (.inr (.inl ⟨rfl, rfl⟩))
      case measure => decide
    · clear k0 k1 h1 h2 h3
      have g0 : ¬ (((n1 + n2 : Nat) : Int) + (n3 : Int) < 0) := by omega
      go_wp2_with fail
      go_round
      case rel => exact .inr (.inr (.inr ⟨rfl, rfl⟩))
      case measure => decide
    · go_wp2_with fail
      refine (grow_nil (n1 + n2 + n3) _ hn).mono ?_
      rintro e w1 ⟨v, rfl, ho, hb⟩
      go_wp2_with fail
      go_loopw [6, 8, 27] (fun v _ i wr => Below w.heap.size w wr ∧ ((i = .int .i64 0 ∧ Own8 wr w.heap.size v []) ∨ (i = .int .i64 1 ∧ Own8 wr w.heap.size v l1) ∨ (i = .int .i64 2 ∧ Own8 wr w.heap.size v (l1 ++ l2)) ∨ (i = .int .i64 3 ∧ Own8 wr w.heap.size v (l1 ++ l2 ++ l3)))) (fun _ _ i _ => 3 - (intOf i).toNat)
      case atStart => exact ⟨hb, .inl ⟨rfl, ho⟩⟩
      case round =>
        rename_i vr xr ir wr
        obtain ⟨hbr, hrel⟩ := hrel
        clear hb ho
        have j0 := (hbr.cell (p := ⟨g, 0, none⟩) hg).trans k0
        have j1 := (hbr.cell (p := ⟨g, 1, none⟩) hg).trans k1
        have j2 := (hbr.cell (p := ⟨g, 2, none⟩) hg).trans k2
        have r1 := h1.on hbr
        have r2 := h2.on hbr
        have r3 := h3.on hbr
        have hsz := hbr.size
        clear k0 k1 k2 h1 h2 h3
        rcases hrel with ⟨rfl, hor⟩ | ⟨rfl, hor⟩ | ⟨rfl, hor⟩ | ⟨rfl, hor⟩
        · have hbb := Lib.hid (show ([] : List UInt8).length + n1 ≤ 140737488355328 by simp; omega)
          clear j1 j2 r2 r3
          go_wp2_with (at_builtin; go_loud (with_reducible refine wpList_append8 rfl (.tmp 31) (.tmp 32) rfl rfl w.heap.size _ [] (by with_unfolding_all rfl) hor wr.heap.size A1 n1 c1 l1 (by with_unfolding_all rfl) r1 hbb.out hsz ?_); intro v2 w3 ha2)
          have hb2 := ha2.below hbr hsz hor (Nat.le_refl _)
          go_roundw
          case rel => exact ⟨hb2, .inr (.inl ⟨rfl, by have := ha2.1; simpa using this⟩)⟩
          case measure => decide
        · have hbb := Lib.hid (show l1.length + n2 ≤ 140737488355328 by have := m1.out; simp; omega)
          clear j0 j2 r1 r3
          go_wp2_with (at_builtin; go_loud (with_reducible refine wpList_append8 rfl (.tmp 31) (.tmp 32) rfl rfl w.heap.size _ l1 (by with_unfolding_all rfl) hor wr.heap.size A2 n2 c2 l2 (by with_unfolding_all rfl) r2 hbb.out hsz ?_); intro v2 w3 ha2)
          have hb2 := ha2.below hbr hsz hor (Nat.le_refl _)
          go_roundw
          case rel => exact ⟨hb2, .inr (.inr (.inl ⟨rfl, ha2.1⟩))⟩
          case measure => decide
        · have hbb := Lib.hid (show (l1 ++ l2 : List UInt8).length + n3 ≤ 140737488355328 by have := m1.out; have := m2.out; simp; omega)
          clear j0 j1 r1 r2
          go_wp2_with (at_builtin; go_loud (with_reducible refine wpList_append8 rfl (.tmp 31) (.tmp 32) rfl rfl w.heap.size _ (l1 ++ l2) (by with_unfolding_all rfl) hor wr.heap.size A3 n3 c3 l3 (by with_unfolding_all rfl) r3 hbb.out hsz ?_); intro v2 w3 ha2)
          have hb2 := ha2.below hbr hsz hor (Nat.le_refl _)
          go_roundw
          case rel => exact ⟨hb2, .inr (.inr (.inr ⟨rfl, ha2.1⟩))⟩
          case measure => decide
        · clear j0 j1 j2 r1 r2 r3
          go_wp2_with fail
          go_ret
          exact ⟨_, rfl, by simpa using hor, hbr⟩
end Go.Proofs.Ytnchgmemajmkjaa
namespace Go.Proofs.Ytnchgmemajmkjaa
open Go.RowKit
set_option linter.unusedVariables false
set_option linter.unusedSimpArgs false
set_option maxRecDepth 20000

set_option maxHeartbeats 4000000 in
theorem concat2 (g : Nat) (A1 A2 : Option Addr) (n1 c1 n2 c2 : Nat) (l1 l2 : List UInt8) (w : World) (hg : g < w.heap.size)
    (k0 : w.cell? ⟨g, 0, none⟩ = some (.slice A1 n1 c1)) (k1 : w.cell? ⟨g, 1, none⟩ = some (.slice A2 n2 c2))
    (h1 : R8 w w.heap.size A1 n1 c1 l1) (h2 : R8 w w.heap.size A2 n2 c2 l2) (hn : n1 + n2 ≤ 1000000) :
    Calls Try.prog 41 #[.slice (some ⟨g, 0, none⟩) 2 2] w (Out8 w (l1 ++ l2)) := by
  have m1 := Lib.hid h1.1
  have m2 := Lib.hid h2.1
  go_enter Try.func41, Try.ntmps41
  go_wp2_with fail
  go_loop [3, 5, 11] (fun s _ i => (i = .int .i64 0 ∧ s = .int .i64 0) ∨ (i = .int .i64 1 ∧ s = .int .i64 (n1 : Int)) ∨ (i = .int .i64 2 ∧ s = .int .i64 ((n1 + n2 : Nat) : Int))) (fun _ _ i => 2 - (intOf i).toNat)
  case atStart => exact .inl ⟨rfl, rfl⟩
  case round =>
    rcases hrel with ⟨rfl, rfl⟩ | ⟨rfl, rfl⟩ | ⟨rfl, rfl⟩
    · clear k1 h1 h2
      have g0 : ¬ ((n1 : Int) < 0) := by omega
      go_wp2_with fail
      go_round
      case rel => exact .inr (.inl ⟨rfl, rfl⟩)
      case measure => decide
    · clear k0 h1 h2
      have g0 : ¬ ((n1 : Int) + (n2 : Int) < 0) := by omega
      go_wp2_with fail
      go_round
      case rel => exact .inr (.inr ⟨rfl, rfl⟩)
      case measure => decide
    · go_wp2_with fail
      refine (grow_nil (n1 + n2) _ hn).mono ?_
      rintro e w1 ⟨v, rfl, ho, hb⟩
      go_wp2_with fail
      go_loopw [6, 8, 27] (fun v _ i wr => Below w.heap.size w wr ∧ ((i = .int .i64 0 ∧ Own8 wr w.heap.size v []) ∨ (i = .int .i64 1 ∧ Own8 wr w.heap.size v l1) ∨ (i = .int .i64 2 ∧ Own8 wr w.heap.size v (l1 ++ l2)))) (fun _ _ i _ => 2 - (intOf i).toNat)
      case atStart => exact ⟨hb, .inl ⟨rfl, ho⟩⟩
      case round =>
        rename_i vr xr ir wr
        obtain ⟨hbr, hrel⟩ := hrel
        clear hb ho
        have j0 := (hbr.cell (p := ⟨g, 0, none⟩) hg).trans k0
        have j1 := (hbr.cell (p := ⟨g, 1, none⟩) hg).trans k1
        have r1 := h1.on hbr
        have r2 := h2.on hbr
        have hsz := hbr.size
        clear k0 k1 h1 h2
        rcases hrel with ⟨rfl, hor⟩ | ⟨rfl, hor⟩ | ⟨rfl, hor⟩
        · have hbb := Lib.hid (show ([] : List UInt8).length + n1 ≤ 140737488355328 by simp; omega)
          clear j1 r2
          go_wp2_with (at_builtin; go_loud (with_reducible refine wpList_append8 rfl (.tmp 31) (.tmp 32) rfl rfl w.heap.size _ [] (by with_unfolding_all rfl) hor wr.heap.size A1 n1 c1 l1 (by with_unfolding_all rfl) r1 hbb.out hsz ?_); intro v2 w3 ha2)
          have hb2 := ha2.below hbr hsz hor (Nat.le_refl _)
          go_roundw
          case rel => exact ⟨hb2, .inr (.inl ⟨rfl, by have := ha2.1; simpa using this⟩)⟩
          case measure => decide
        · have hbb := Lib.hid (show l1.length + n2 ≤ 140737488355328 by have := m1.out; simp; omega)
          clear j0 r1
          go_wp2_with (at_builtin; go_loud (with_reducible refine wpList_append8 rfl (.tmp 31) (.tmp 32) rfl rfl w.heap.size _ l1 (by with_unfolding_all rfl) hor wr.heap.size A2 n2 c2 l2 (by with_unfolding_all rfl) r2 hbb.out hsz ?_); intro v2 w3 ha2)
          have hb2 := ha2.below hbr hsz hor (Nat.le_refl _)
          go_roundw
          case rel => exact ⟨hb2, .inr (.inr ⟨rfl, ha2.1⟩)⟩
          case measure => decide
        · clear j0 j1 r1 r2
          go_wp2_with fail
          go_ret
          exact hor.out hbr
end Go.Proofs.Ytnchgmemajmkjaa
namespace Go.Proofs.Ytnchgmemajmkjaa
open Go.RowKit
set_option linter.unusedVariables false
set_option linter.unusedSimpArgs false
set_option maxRecDepth 20000

theorem rtcp_words (x : Rv) (w : World) (hx : IsR w w.heap.size x) (he : x.r.err = 0) (hk : x.r.kind ≠ 6) : Calls Try.prog 61 #[x.val] w (WordsOut w x.r.ws) := by
  obtain ⟨h1, h2, h3⟩ := Rep.err_zero he
  have hc : x.r.kind = 1 ∨ x.r.kind = 2 ∨ x.r.kind = 3 ∨ x.r.kind = 4 ∨ x.r.kind = 5 := by omega
  rcases hc with h | h | h | h | h
  · exact words_1 x w hx h (Rep.fits_12 (.inl h) h2)
  · exact words_2 x w hx h (Rep.fits_12 (.inr h) h2)
  · exact words_3 x w hx h
  · obtain ⟨a, b, c, d⟩ := Rep.fits_4 h h2
    exact words_4 x w hx h a c d
  · exact words_5 x w hx h (Rep.fits_5 h h2).1
theorem oct_head (a b : UInt8) (x y : Int) (hx : x = (a.toNat : Int)) (hy : y = (b.toNat : Int)) (V : World) (g : Nat) (hg : g = V.heap.size) (k : Int) (n : Nat) (hk : k = (n : Int)) (hn : n < 18446744073709551616) :
    Calls Try.prog 63 #[.slice (some ⟨g, 0, none⟩) 2 2, .int .u64 k, .int .i64 2] (V.alloc (.cells #[.int .u8 x, .int .u8 y] 5)) (New8 (V.alloc (.cells #[.int .u8 x, .int .u8 y] 5)) ([a, b] ++ be n 2)) := by
  subst hx hy hk
  exact oct_put2 _ 2 2 [a, b] _ (lit_r8_at [a, b] _ 2 g (0, 0) V hg rfl rfl) (by omega) n hn
theorem concat2_at (g : Nat) (A1 A2 : Option Addr) (n1 c1 n2 c2 : Nat) (l1 l2 : List UInt8) (V : World) (hg : g = V.heap.size) (h1 : R8 V V.heap.size A1 n1 c1 l1) (h2 : R8 V V.heap.size A2 n2 c2 l2) (hn : n1 + n2 ≤ 1000000) :
    Calls Try.prog 41 #[.slice (some ⟨g, 0, none⟩) 2 2] (V.alloc (.cells #[.slice A1 n1 c1, .slice A2 n2 c2] 31)) (Out8 (V.alloc (.cells #[.slice A1 n1 c1, .slice A2 n2 c2] 31)) (l1 ++ l2)) := by
  subst hg
  have hb : Below V.heap.size V (V.alloc (.cells #[.slice A1 n1 c1, .slice A2 n2 c2] 31)) := (Below.refl _ V).alloc (Nat.le_refl _) _
  have hB : Blk (V.alloc (.cells #[.slice A1 n1 c1, .slice A2 n2 c2] 31)) V.heap.size 31 #[.slice A1 n1 c1, .slice A2 n2 c2] := Blk.new _ _ _
  exact concat2 V.heap.size A1 A2 n1 c1 n2 c2 l1 l2 _ hB.lt ((hB.cell 0).trans rfl) ((hB.cell 1).trans rfl) (h1.on hb) (h2.on hb) hn
set_option maxHeartbeats 2000000 in
theorem bytesOf_6 (x : Rv) (w : World) (hx : IsR w w.heap.size x) (he : x.r.err = 0) (hk6 : x.r.kind = 6) : Calls Try.prog 42 #[x.val] w (Out8 w x.r.one) := by
  have hkk := (Rep.err_zero he).1
  have hma := fun W => mark_any x W hkk
  have htc := Rep.tc_in he
  have htl := Rep.tail_le he
  have hone : x.r.one = [UInt8.ofNat (128 + x.r.tc.2.toNat), UInt8.ofNat x.r.tc.1.toNat] ++ (be (x.r.tail.length / 4) 2 ++ x.r.tail) := rfl
  rw [hone]
  clear hone
  have htt : x.r.tail = x.r.body := by unfold Rep.tail; rw [hk6]; rfl
  have hre := (htt ▸ hx.body : R8 w w.heap.size x.Ab x.r.body.length x.cb x.r.tail)
  have hbl : x.r.body.length = x.r.tail.length := by rw [htt]
  clear htt
  generalize x.r.tail = T at *
  generalize x.r.tc.1 = ty at *
  generalize x.r.tc.2 = cn at *
  obtain ⟨⟨kind, src, about, tups, abouts, nums, rate, ty', count, body⟩, At, ct, Aa, ca, An, cn', Ab, cb⟩ := x
  simp only [Rv.val, Rv.cells] at hma ⊢
  try simp only at hk6
  have hb : Below w.heap.size w (w.alloc (.cells #[.int .i64 kind, .int .u32 (src : Int), .int .u32 (about : Int), .slice At tups.length ct, .slice Aa abouts.length ca, .slice An nums.length cn', .int .u64 (rate : Int), .int .i64 ty', .int .i64 count, .slice Ab body.length cb] 33)) := (Below.refl _ w).alloc (Nat.le_refl _) _
  have hZ : Blk (w.alloc (.cells #[.int .i64 kind, .int .u32 (src : Int), .int .u32 (about : Int), .slice At tups.length ct, .slice Aa abouts.length ca, .slice An nums.length cn', .int .u64 (rate : Int), .int .i64 ty', .int .i64 count, .slice Ab body.length cb] 33)) w.heap.size 33 #[.int .i64 kind, .int .u32 (src : Int), .int .u32 (about : Int), .slice At tups.length ct, .slice Aa abouts.length ca, .slice An nums.length cn', .int .u64 (rate : Int), .int .i64 ty', .int .i64 count, .slice Ab body.length cb] := Blk.new _ _ _
  have hx := hx.on hb
  obtain ⟨ty, rfl⟩ : ∃ n : Nat, ty = (n : Int) := ⟨ty.toNat, by omega⟩
  obtain ⟨cn, rfl⟩ : ∃ n : Nat, cn = (n : Int) := ⟨cn.toNat, by omega⟩
  simp only [Int.toNat_natCast] at *
  have hor := Lib.hid (or64_128 cn (by omega) (by omega))
  generalize hG : [UInt8.ofNat (128 + cn), UInt8.ofNat ty] ++ (be (T.length / 4) 2 ++ T) = G
  have HG := Lib.hid hG
  clear hG
  have r1 := hre.on hb
  try simp only at r1
  try simp only at hbl
  subst hk6
  generalize hn1 : body.length = n1 at *
  have HN := Lib.hid hbl.symm
  have hn1 : n1 ≤ 262140 := by omega
  have A1 := Ab
  clear hbl A1 hre he hx hkk
  go_enter Try.func42, Try.ntmps42
  go_upto_region 1 with (fail)
  generalize (w.alloc (.cells #[.int .i64 6, .int .u32 (src : Int), .int .u32 (about : Int), .slice At tups.length ct, .slice Aa abouts.length ca, .slice An nums.length cn', .int .u64 (rate : Int), .int .i64 ty', .int .i64 count, .slice Ab n1 cb] 33)) = V1 at hb hZ r1 ⊢
  obtain ⟨y0, y1, y2, y3, y4, y5, y6, y7, y8, y9⟩ := blk10 hZ
  have b1 := hb
  clear hb
  go_wp2_with fail
  ((with_reducible refine (hma _).mono ?_); rintro e w2 ⟨rfl, b2⟩)
  have r1 := r1.on b2
  have b2 := b1.trans (b2.mono b1.size)
  clear hma b1 hZ y0 y1 y2 y3 y4 y5 y6 y7 y8 y9
  go_wp2_with fail
  have hx8 : bits .or .i64 128 (cn : Int) % 256 = ((UInt8.ofNat (128 + cn)).toNat : Int) := by
    rw [hor.out, UInt8.toNat_ofNat']
    omega
  have hy8 : (ty : Int) = ((UInt8.ofNat ty).toNat : Int) := by
    rw [UInt8.toNat_ofNat']
    omega
  ((with_reducible refine (oct_head (UInt8.ofNat (128 + cn)) (UInt8.ofNat ty) _ _ hx8 hy8 w2 _ rfl _ (n1 / 4) (by omega) (by omega)).mono ?_); rintro e w3 h3)
  obtain ⟨A3, n3, c3, rfl, r3, b3⟩ := h3.out
  have b3 := ((Below.refl w2.heap.size w2).alloc (Nat.le_refl _) (.cells #[.int .u8 (bits .or .i64 128 (cn : Int) % 256), .int .u8 (ty : Int)] 5)).trans (b3.mono (by simp))
  have r1 := r1.on b3
  have b3 := b2.trans (b3.mono b2.size)
  have hn3 : n3 = 4 := by rw [← r3.1]; simp [be_len]
  subst hn3
  have hcc := concat2_at w3.heap.size A3 Ab 4 c3 n1 cb _ _ w3 rfl r3 r1 (by omega)
  have e : ([UInt8.ofNat (128 + cn), UInt8.ofNat ty] ++ be (n1 / 4) 2) ++ T = G := by rw [← HG.out, HN.out, List.append_assoc]
  rw [e] at hcc
  have hs3 := b3.size
  clear e hx8 hy8 r1 r3 hor h3 b2
  go_wp2_with fail
  ((with_reducible refine hcc.mono ?_); rintro e w4 ⟨A4, n4, c4, rfl, r4, b4⟩)
  have b5 := b3.trans ((((Below.refl w3.heap.size w3).alloc (Nat.le_refl _) (.cells #[.slice A3 4 c3, .slice Ab n1 cb] 31)).trans (b4.mono (by simp))).mono hs3)
  clear hcc b4
  go_wp2_with fail
  go_ret
  exact ⟨_, _, _, rfl, r4, b5⟩
set_option maxHeartbeats 2000000 in
theorem bytesOf_w (x : Rv) (w : World) (hx : IsR w w.heap.size x) (he : x.r.err = 0) (hk6 : x.r.kind ≠ 6) : Calls Try.prog 42 #[x.val] w (Out8 w x.r.one) := by
  have hkk := (Rep.err_zero he).1
  have hma := fun W => mark_any x W hkk
  have htc := Rep.tc_in he
  have htl := Rep.tail_le he
  have hone : x.r.one = [UInt8.ofNat (128 + x.r.tc.2.toNat), UInt8.ofNat x.r.tc.1.toNat] ++ (be (x.r.tail.length / 4) 2 ++ x.r.tail) := rfl
  rw [hone]
  clear hone
  have hwo := fun W h => rtcp_words x W h he hk6
  have hts := Rep.tail_ws (r := x.r) (by omega)
  have hws := wB_len x.r.ws
  rw [← hts] at hws
  have hpw := fun A n c W h hn => putWords_any A n c x.r.ws W h hn
  rw [← hts] at hpw
  clear hts
  generalize x.r.tail = T at *
  generalize x.r.ws = ws at *
  generalize x.r.tc.1 = ty at *
  generalize x.r.tc.2 = cn at *
  obtain ⟨⟨kind, src, about, tups, abouts, nums, rate, ty', count, body⟩, At, ct, Aa, ca, An, cn', Ab, cb⟩ := x
  simp only [Rv.val, Rv.cells] at hma hwo ⊢
  try simp only at hk6
  have hb : Below w.heap.size w (w.alloc (.cells #[.int .i64 kind, .int .u32 (src : Int), .int .u32 (about : Int), .slice At tups.length ct, .slice Aa abouts.length ca, .slice An nums.length cn', .int .u64 (rate : Int), .int .i64 ty', .int .i64 count, .slice Ab body.length cb] 33)) := (Below.refl _ w).alloc (Nat.le_refl _) _
  have hZ : Blk (w.alloc (.cells #[.int .i64 kind, .int .u32 (src : Int), .int .u32 (about : Int), .slice At tups.length ct, .slice Aa abouts.length ca, .slice An nums.length cn', .int .u64 (rate : Int), .int .i64 ty', .int .i64 count, .slice Ab body.length cb] 33)) w.heap.size 33 #[.int .i64 kind, .int .u32 (src : Int), .int .u32 (about : Int), .slice At tups.length ct, .slice Aa abouts.length ca, .slice An nums.length cn', .int .u64 (rate : Int), .int .i64 ty', .int .i64 count, .slice Ab body.length cb] := Blk.new _ _ _
  have hx := hx.on hb
  obtain ⟨ty, rfl⟩ : ∃ n : Nat, ty = (n : Int) := ⟨ty.toNat, by omega⟩
  obtain ⟨cn, rfl⟩ : ∃ n : Nat, cn = (n : Int) := ⟨cn.toNat, by omega⟩
  simp only [Int.toNat_natCast] at *
  have hor := Lib.hid (or64_128 cn (by omega) (by omega))
  generalize hG : [UInt8.ofNat (128 + cn), UInt8.ofNat ty] ++ (be (T.length / 4) 2 ++ T) = G
  have HG := Lib.hid hG
  clear hG
  have hk6 : (kind != 6) = true := by simpa using hk6
  clear he hkk
  go_enter Try.func42, Try.ntmps42
  go_upto_region 1 with (fail)
  have hwo := hwo _ hx
  generalize (w.alloc (.cells #[.int .i64 kind, .int .u32 (src : Int), .int .u32 (about : Int), .slice At tups.length ct, .slice Aa abouts.length ca, .slice An nums.length cn', .int .u64 (rate : Int), .int .i64 ty', .int .i64 count, .slice Ab body.length cb] 33)) = V1 at hb hZ hwo ⊢
  obtain ⟨y0, y1, y2, y3, y4, y5, y6, y7, y8, y9⟩ := blk10 hZ
  clear hx
  go_wp2_with fail
  ((with_reducible refine hwo.mono ?_); rintro e w5 ⟨A5, c5, rfl, r5, b5⟩)
  have hpw := hpw _ _ _ _ r5 (by omega)
  clear hwo
  go_wp2_with fail
  ((with_reducible refine hpw.mono ?_); rintro e w6 ⟨A1, n1, c1, rfl, r1, b6⟩)
  have b1 := b5.trans (b6.mono b5.size)
  have hZ := hZ.below b1 hZ.lt
  have b1 := hb.trans (b1.mono hb.size)
  have HN := Lib.hid r1.1
  have hn1 : n1 ≤ 262140 := by rw [← r1.1]; exact htl
  clear y0 y1 y2 y3 y4 y5 y6 y7 y8 y9 b5 b6 hb r5 hpw hws
  obtain ⟨y0, y1, y2, y3, y4, y5, y6, y7, y8, y9⟩ := blk10 hZ
  go_wp2_with fail
  ((with_reducible refine (hma _).mono ?_); rintro e w2 ⟨rfl, b2⟩)
  have r1 := r1.on b2
  have b2 := b1.trans (b2.mono b1.size)
  clear hma b1 hZ y0 y1 y2 y3 y4 y5 y6 y7 y8 y9 hk6
  go_wp2_with fail
  have hx8 : bits .or .i64 128 (cn : Int) % 256 = ((UInt8.ofNat (128 + cn)).toNat : Int) := by
    rw [hor.out, UInt8.toNat_ofNat']
    omega
  have hy8 : (ty : Int) = ((UInt8.ofNat ty).toNat : Int) := by
    rw [UInt8.toNat_ofNat']
    omega
  ((with_reducible refine (oct_head (UInt8.ofNat (128 + cn)) (UInt8.ofNat ty) _ _ hx8 hy8 w2 _ rfl _ (n1 / 4) (by omega) (by omega)).mono ?_); rintro e w3 h3)
  obtain ⟨A3, n3, c3, rfl, r3, b3⟩ := h3.out
  have b3 := ((Below.refl w2.heap.size w2).alloc (Nat.le_refl _) (.cells #[.int .u8 (bits .or .i64 128 (cn : Int) % 256), .int .u8 (ty : Int)] 5)).trans (b3.mono (by simp))
  have r1 := r1.on b3
  have b3 := b2.trans (b3.mono b2.size)
  have hn3 : n3 = 4 := by rw [← r3.1]; simp [be_len]
  subst hn3
  have hcc := concat2_at w3.heap.size A3 A1 4 c3 n1 c1 _ _ w3 rfl r3 r1 (by omega)
  have e : ([UInt8.ofNat (128 + cn), UInt8.ofNat ty] ++ be (n1 / 4) 2) ++ T = G := by rw [← HG.out, HN.out, List.append_assoc]
  rw [e] at hcc
  have hs3 := b3.size
  clear e hx8 hy8 r1 r3 hor h3 b2
  go_wp2_with fail
  ((with_reducible refine hcc.mono ?_); rintro e w4 ⟨A4, n4, c4, rfl, r4, b4⟩)
  have b5 := b3.trans ((((Below.refl w3.heap.size w3).alloc (Nat.le_refl _) (.cells #[.slice A3 4 c3, .slice A1 n1 c1] 31)).trans (b4.mono (by simp))).mono hs3)
  clear hcc b4
  go_wp2_with fail
  go_ret
  exact ⟨_, _, _, rfl, r4, b5⟩
theorem rtcp_bytesOf (x : Rv) (w : World) (hx : IsR w w.heap.size x) (he : x.r.err = 0) : Calls Try.prog 42 #[x.val] w (Out8 w x.r.one) := by
  by_cases h : x.r.kind = 6
  · exact bytesOf_6 x w hx he h
  · exact bytesOf_w x w hx he h
end Go.Proofs.Ytnchgmemajmkjaa
namespace Go.Proofs.Ytnchgmemajmkjaa
open Go.RowKit
set_option linter.unusedVariables false
set_option linter.unusedSimpArgs false
set_option maxRecDepth 20000

/-- What Bytes answers: the row, or a refusal. -/
def RbOut (w : World) (l : List Rep) (e : Ending) (w' : World) : Prop :=
  (repsErr l = 0 → ∃ v, e = .returned (.tuple #[v, .int .i64 0]) ∧ Own8 w' w.heap.size v (onesB l) ∧ Below w.heap.size w w') ∧
  (repsErr l ≠ 0 → e = .returned (.tuple #[.slice none 0 0, .int .i64 (repsErr l)]) ∧ Below w.heap.size w w')
theorem repsErr_nil : repsErr [] = 1 := rfl
theorem repsErr_bad {l : List Rep} {q : Nat} (hq : q < l.length) (h : ∀ r ∈ l.take q, r.err = 0) (he : l[q].err ≠ 0) : repsErr l = l[q].err := by
  unfold repsErr
  rw [if_neg (by omega)]
  have h1 : l = l.take q ++ l[q] :: l.drop (q + 1) := by rw [← List.drop_eq_getElem_cons hq, List.take_append_drop]
  have h2 : l.find? (fun r => decide (r.err ≠ 0)) = some l[q] := by
    generalize l[q] = x at h1 he
    rw [h1, List.find?_append]
    have h3 : (l.take q).find? (fun r => decide (r.err ≠ 0)) = none := by
      rw [List.find?_eq_none]
      intro y hy
      simp [h y hy]
    rw [h3]
    simp [he]
  rw [h2]
theorem repsErr_ok {l : List Rep} (hl : l.length ≠ 0) (h : ∀ r ∈ l, r.err = 0) : repsErr l = if 1500 < (onesB l).length then 3 else 0 := by
  unfold repsErr
  rw [if_neg hl]
  have h3 : l.find? (fun r => decide (r.err ≠ 0)) = none := by
    rw [List.find?_eq_none]
    intro y hy
    simp [h y hy]
  rw [h3]
theorem Rep.err_12 (r : Rep) : r.err = 0 ∨ r.err = 1 ∨ r.err = 12 := by
  unfold Rep.err
  split
  · omega
  · split
    · omega
    · split <;> omega
theorem ones_take {l : List Rep} {q : Nat} (h : q < l.length) : onesB (l.take q) ++ l[q].one = onesB (l.take (q + 1)) := by
  unfold onesB
  rw [List.take_add_one, List.flatMap_append, List.getElem?_eq_getElem h]
  simp
theorem ones_le {l : List Rep} (h : ∀ r ∈ l, r.err = 0) : (onesB l).length ≤ l.length * 262144 := by
  induction l with
  | nil => simp [onesB]
  | cons x r ih =>
    have h1 := Rep.one_len x
    have h2 := Rep.tail_le (h x (by simp))
    have h3 := ih (fun y hy => h y (by simp [hy]))
    unfold onesB at h3 ⊢
    rw [List.flatMap_cons, List.length_append, List.length_cons, Nat.add_mul]
    omega
set_option maxHeartbeats 2000000 in
theorem ref6_bytes (A : Option Addr) (n c : Nat) (L : List Rv) (w : World) (h : RR w w.heap.size A n c L) (hn : n ≤ 1000) :
    Calls Try.prog 13 #[.slice A n c] w (RbOut w (L.map Rv.r)) := by
  have hL := h.1
  by_cases h0 : n = 0
  · subst h0
    have : L = [] := List.length_eq_zero_iff.1 hL
    subst this
    clear h hL
    go_enter Try.func13, Try.ntmps13
    go_wp2_with fail
    go_ret2
    exact ⟨fun hh => by simp [repsErr_nil] at hh, fun _ => ⟨rfl, Below.refl _ _⟩⟩
  have g0 : ((n : Int) == 0) = false := by simp; omega
  have HL := Lib.hid hL
  have hrl : (L.map Rv.r).length = n := by simp [hL]
  have HRL := Lib.hid hrl
  clear hL hrl
  go_enter Try.func13, Try.ntmps13
  go_wp2_with fail
  go_loopw [6, 7, 15] (fun _ _ i wr => ∃ q : Nat, q ≤ n ∧ i = .int .i64 (q : Int) ∧ (∀ r ∈ (L.map Rv.r).take q, r.err = 0) ∧ Below w.heap.size w wr) (fun _ _ i _ => n - (intOf i).toNat)
  case atStart => exact ⟨0, by omega, rfl, by simp, Below.refl _ _⟩
  case round =>
    obtain ⟨q, hq, rfl, hok, hbr⟩ := hrel
    have HOK := Lib.hid hok
    clear hok
    by_cases hlt : q < n
    · have g3 : decide ((q : Int) < (n : Int)) = true := by simp; omega
      have hql : q < L.length := by rw [HL.out]; exact hlt
      have hqr : q < (L.map Rv.r).length := by rw [HRL.out]; exact hlt
      obtain ⟨b, off, rfl, hbl, k0, k1, k2, k3, k4, k5, k6, k7, k8, k9⟩ := h.at hql
      have c0 := (hbr.cell (p := ⟨b, off + q * 10, none⟩) hbl).trans k0
      have c1 := (hbr.cell (p := ⟨b, off + q * 10 + 1, none⟩) hbl).trans k1
      have c2 := (hbr.cell (p := ⟨b, off + q * 10 + 2, none⟩) hbl).trans k2
      have c3 := (hbr.cell (p := ⟨b, off + q * 10 + 3, none⟩) hbl).trans k3
      have c4 := (hbr.cell (p := ⟨b, off + q * 10 + 4, none⟩) hbl).trans k4
      have c5 := (hbr.cell (p := ⟨b, off + q * 10 + 5, none⟩) hbl).trans k5
      have c6 := (hbr.cell (p := ⟨b, off + q * 10 + 6, none⟩) hbl).trans k6
      have c7 := (hbr.cell (p := ⟨b, off + q * 10 + 7, none⟩) hbl).trans k7
      have c8 := (hbr.cell (p := ⟨b, off + q * 10 + 8, none⟩) hbl).trans k8
      have c9 := (hbr.cell (p := ⟨b, off + q * 10 + 9, none⟩) hbl).trans k9
      have hx := (h.2.1 _ (List.getElem_mem hql)).on hbr
      have hrq : (L.map Rv.r)[q] = L[q].r := by simp
      have hbad : L[q].r.err ≠ 0 → repsErr (L.map Rv.r) = L[q].r.err := fun he => by
        have := repsErr_bad hqr HOK.out (by rw [hrq]; exact he)
        rw [this, hrq]
      have hgood : L[q].r.err = 0 → ∀ r ∈ (L.map Rv.r).take (q + 1), r.err = 0 := fun he r hr => by
        rw [List.take_add_one, List.getElem?_eq_getElem hqr, hrq] at hr
        rcases List.mem_append.1 hr with hr | hr
        · exact HOK.out r hr
        · simp at hr
          subst hr
          exact he
      have HBAD := Lib.hid hbad
      have HGOOD := Lib.hid hgood
      clear hbad hgood hrq k0 k1 k2 k3 k4 k5 k6 k7 k8 k9 h HOK
      generalize L[q] = x at c0 c1 c2 c3 c4 c5 c6 c7 c8 c9 hx HBAD HGOOD
      have he12 := Rep.err_12 x.r
      have hrt := fun W h => ref6_right x W h
      obtain ⟨r, At, ct, Aa, ca, An, cn, Ab, cb⟩ := x
      simp only [Rv.val, Rv.cells] at hrt c0 c1 c2 c3 c4 c5 c6 c7 c8 c9 HBAD HGOOD he12
      generalize r.err = er at hrt HBAD HGOOD he12
      have hbA := hbr.alloc hbr.size (.cells #[.int .i64 r.kind, .int .u32 (r.src : Int), .int .u32 (r.about : Int), .slice At r.tups.length ct, .slice Aa r.abouts.length ca, .slice An r.nums.length cn, .int .u64 (r.rate : Int), .int .i64 r.ty, .int .i64 r.count, .slice Ab r.body.length cb] 33)
      have hxA := hx.on ((Below.refl _ wr).alloc (Nat.le_refl _) (.cells #[.int .i64 r.kind, .int .u32 (r.src : Int), .int .u32 (r.about : Int), .slice At r.tups.length ct, .slice Aa r.abouts.length ca, .slice An r.nums.length cn, .int .u64 (r.rate : Int), .int .i64 r.ty, .int .i64 r.count, .slice Ab r.body.length cb] 33))
      go_upto_region 7 with (fail)
      have hrt := hrt _ hxA
      clear hxA hx c0 c1 c2 c3 c4 c5 c6 c7 c8 c9
      go_wp2_with fail
      ((with_reducible refine hrt.mono ?_); rintro e w1 ⟨rfl, b1⟩)
      have b2 := hbA.trans (b1.mono hbA.size)
      clear hrt hbA b1 hbr
      by_cases hz : er = 0
      · subst hz
        go_wp2_with fail
        go_roundw
        case rel => exact ⟨q + 1, by omega, by go_num, HGOOD.out (by simp), b2⟩
        case measure => simp [intOf]; omega
      · have hz' : (er != 0) = true := by simpa using hz
        have HE := Lib.hid (HBAD.out hz)
        have hzz := Lib.hid hz
        clear hz HBAD HGOOD he12
        go_wp2_with fail
        go_ret2
        exact ⟨fun hh => by rw [HE.out] at hh; exact absurd hh hzz.out, fun _ => ⟨by rw [HE.out]; rfl, b2⟩⟩
    · have g3 : ¬ (q : Int) < (n : Int) := by omega
      have hall : ∀ r ∈ L.map Rv.r, r.err = 0 := by
        have := HOK.out
        rwa [List.take_of_length_le (by rw [HRL.out]; omega)] at this
      have HALL := Lib.hid hall
      clear hall HOK
      go_wp2_with fail
      go_loopw [4, 9, 27] (fun v _ i wr => ∃ q : Nat, q ≤ n ∧ i = .int .i64 (q : Int) ∧ Own8 wr w.heap.size v (onesB ((L.map Rv.r).take q)) ∧ Below w.heap.size w wr) (fun _ _ i _ => n - (intOf i).toNat)
      case atStart => exact ⟨0, by omega, rfl, World.ownsRow_nil _ _ _ _, hbr⟩
      case round =>
        obtain ⟨p, hp, rfl, ho, hbr⟩ := hrel
        by_cases hlt : p < n
        · have g3 : decide ((p : Int) < (n : Int)) = true := by simp; omega
          have hql : p < L.length := by rw [HL.out]; exact hlt
          have hqr : p < (L.map Rv.r).length := by rw [HRL.out]; exact hlt
          obtain ⟨b, off, rfl, hbl, k0, k1, k2, k3, k4, k5, k6, k7, k8, k9⟩ := h.at hql
          have c0 := (hbr.cell (p := ⟨b, off + p * 10, none⟩) hbl).trans k0
          have c1 := (hbr.cell (p := ⟨b, off + p * 10 + 1, none⟩) hbl).trans k1
          have c2 := (hbr.cell (p := ⟨b, off + p * 10 + 2, none⟩) hbl).trans k2
          have c3 := (hbr.cell (p := ⟨b, off + p * 10 + 3, none⟩) hbl).trans k3
          have c4 := (hbr.cell (p := ⟨b, off + p * 10 + 4, none⟩) hbl).trans k4
          have c5 := (hbr.cell (p := ⟨b, off + p * 10 + 5, none⟩) hbl).trans k5
          have c6 := (hbr.cell (p := ⟨b, off + p * 10 + 6, none⟩) hbl).trans k6
          have c7 := (hbr.cell (p := ⟨b, off + p * 10 + 7, none⟩) hbl).trans k7
          have c8 := (hbr.cell (p := ⟨b, off + p * 10 + 8, none⟩) hbl).trans k8
          have c9 := (hbr.cell (p := ⟨b, off + p * 10 + 9, none⟩) hbl).trans k9
          have hx := (h.2.1 _ (List.getElem_mem hql)).on hbr
          have her := HALL.out _ (List.getElem_mem hqr)
          have hrq : (L.map Rv.r)[p] = L[p].r := by simp
          have htk := ones_take hqr
          rw [hrq] at her htk
          have HTK := Lib.hid htk
          have hlen : (onesB ((L.map Rv.r).take p)).length ≤ 262144000 := by
            have h1 := ones_le (l := (L.map Rv.r).take p) (fun r hr => HALL.out r (List.mem_of_mem_take hr))
            have h2 : ((L.map Rv.r).take p).length ≤ 1000 := by rw [List.length_take, HRL.out]; omega
            exact Nat.le_trans h1 (Nat.le_trans (Nat.mul_le_mul_right 262144 h2) (by decide))
          have h1l := Rep.one_len L[p].r
          have h1t := Rep.tail_le her
          clear hrq htk k0 k1 k2 k3 k4 k5 k6 k7 k8 k9 h HALL
          generalize onesB ((L.map Rv.r).take p) = R at ho HTK hlen
          generalize L[p] = x at c0 c1 c2 c3 c4 c5 c6 c7 c8 c9 hx HTK her h1l h1t
          have hon := fun W h => ref6_one x W h her
          have hole : x.r.one.length ≤ 262144 := by omega
          obtain ⟨r, At, ct, Aa, ca, An, cn, Ab, cb⟩ := x
          simp only [Rv.val, Rv.cells] at hon c0 c1 c2 c3 c4 c5 c6 c7 c8 c9 HTK hole
          have hbA := hbr.alloc hbr.size (.cells #[.int .i64 r.kind, .int .u32 (r.src : Int), .int .u32 (r.about : Int), .slice At r.tups.length ct, .slice Aa r.abouts.length ca, .slice An r.nums.length cn, .int .u64 (r.rate : Int), .int .i64 r.ty, .int .i64 r.count, .slice Ab r.body.length cb] 33)
          have hal := (Below.refl wr.heap.size wr).alloc (Nat.le_refl _) (.cells #[.int .i64 r.kind, .int .u32 (r.src : Int), .int .u32 (r.about : Int), .slice At r.tups.length ct, .slice Aa r.abouts.length ca, .slice An r.nums.length cn, .int .u64 (r.rate : Int), .int .i64 r.ty, .int .i64 r.count, .slice Ab r.body.length cb] 33)
          have hxA := hx.on hal
          have hoA := own8_kept ho hal
          obtain ⟨Ar, cr, rfl, hr0⟩ := ho.r8
          go_upto_region 14 with (fail)
          have hon := hon _ hxA
          clear hxA hx c0 c1 c2 c3 c4 c5 c6 c7 c8 c9 h1l h1t her hr0 hal
          go_wp2_with fail
          ((with_reducible refine hon.mono ?_); rintro e w1 ⟨v1, rfl, o1, b1⟩)
          have b2 := hbA.trans (b1.mono hbA.size)
          have ho1 := own8_kept hoA b1
          obtain ⟨A1, c1, rfl, r1⟩ := o1.r8
          generalize hT : r.one = T at r1 hole
          have HT := Lib.hid hT
          have hbb : R.length + T.length ≤ 140737488355328 := by omega
          have HBB := Lib.hid hbb
          clear hon hbA b1 hbr hT o1 hoA ho hbb
          go_wp2_with (at_builtin; ((with_reducible refine wpList_append8 rfl (.tmp 31) (.tmp 33) rfl rfl w.heap.size _ _ (by with_unfolding_all rfl) ho1 w1.heap.size A1 _ c1 _ (by with_unfolding_all rfl) r1 HBB.out b2.size ?_); intro v7 w7 ha7))
          have b7 := below_grown b2 b2.size ha7.2.1 (fun k hk => (World.ownsRow.lt ho1 k hk).1)
          have o7 := ha7.1
          have e7 : R ++ T = onesB ((L.map Rv.r).take (p + 1)) := by rw [← HT.out]; exact HTK.out
          rw [e7] at o7
          clear ha7 ho1 r1 b2 e7 HBB
          go_roundw
          case rel => exact ⟨p + 1, by omega, by go_num, o7, b7⟩
          case measure => simp [intOf]; omega
        · have g3 : ¬ (p : Int) < (n : Int) := by omega
          have ho := ho
          rw [List.take_of_length_le (by rw [HRL.out]; omega)] at ho
          have hre := repsErr_ok (by rw [HRL.out]; omega) HALL.out
          unfold RbOut
          generalize hT : onesB (L.map Rv.r) = T at ho hre
          have HT := Lib.hid hT
          obtain ⟨Ar, cr, rfl, hr0⟩ := ho.r8
          clear hT hr0 h
          by_cases hl : 1500 < T.length
          · rw [if_pos hl] at hre
            have HRE := Lib.hid hre
            have g5 : (1500 : Int) < (T.length : Int) := by omega
            clear hre hl
            go_wp2_with fail
            go_ret2
            exact ⟨fun hh => by rw [HRE.out] at hh; omega, fun _ => ⟨by rw [HRE.out]; rfl, hbr⟩⟩
          · rw [if_neg hl] at hre
            have HRE := Lib.hid hre
            have g5 : ¬ (1500 : Int) < (T.length : Int) := by omega
            clear hre hl
            go_wp2_with fail
            go_ret2
            exact ⟨fun _ => ⟨_, rfl, by rw [HT.out]; exact ho, hbr⟩, fun hh => absurd HRE.out hh⟩
end Go.Proofs.Ytnchgmemajmkjaa
namespace Go.Proofs.Ytnchgmemajmkjaa
open Go.RowKit
set_option linter.unusedVariables false
set_option linter.unusedSimpArgs false
set_option maxRecDepth 20000

/-- What rtcp.Bytes answers. -/
def RqOut (w : World) (l : List Rep) (e : Ending) (w' : World) : Prop :=
  (repsErr l = 0 → ∃ A n c, e = .returned (.tuple #[.slice A n c, .int .i64 0]) ∧ R8 w' w'.heap.size A n c (onesB l) ∧ Below w.heap.size w w') ∧
  (repsErr l ≠ 0 → e = .returned (.tuple #[.slice none 0 0, .int .i64 (repsErr l)]) ∧ Below w.heap.size w w')
theorem ones_mono (l : List Rep) (k : Nat) : (onesB (l.take k)).length ≤ (onesB l).length := by
  have e : onesB l = onesB (l.take k) ++ onesB (l.drop k) := by
    unfold onesB
    rw [← List.flatMap_append, List.take_append_drop]
  rw [e, List.length_append]
  omega
set_option maxHeartbeats 2000000 in
theorem rtcp_bytes (A : Option Addr) (n c : Nat) (L : List Rv) (w : World) (h : RR w w.heap.size A n c L) (hn : n ≤ 1000) :
    Calls Try.prog 19 #[.slice A n c] w (RqOut w (L.map Rv.r)) := by
  have hL := h.1
  by_cases h0 : n = 0
  · subst h0
    have : L = [] := List.length_eq_zero_iff.1 hL
    subst this
    clear h hL
    go_enter Try.func19, Try.ntmps19
    go_wp2_with fail
    go_ret2
    exact ⟨fun hh => by simp [repsErr_nil] at hh, fun _ => ⟨rfl, Below.refl _ _⟩⟩
  have g0 : ((n : Int) == 0) = false := by simp; omega
  have HL := Lib.hid hL
  have hrl : (L.map Rv.r).length = n := by simp [hL]
  have HRL := Lib.hid hrl
  clear hL hrl
  go_enter Try.func19, Try.ntmps19
  go_wp2_with fail
  go_loopw [15] (fun i wr => ∃ q : Nat, q ≤ n ∧ i = .int .i64 (q : Int) ∧ (∀ r ∈ (L.map Rv.r).take q, r.err = 0) ∧ Below w.heap.size w wr) (fun i _ => n - (intOf i).toNat)
  case atStart => exact ⟨0, by omega, rfl, by simp, Below.refl _ _⟩
  case round =>
    obtain ⟨q, hq, rfl, hok, hbr⟩ := hrel
    have HOK := Lib.hid hok
    clear hok
    by_cases hlt : q < n
    · have g3 : decide ((q : Int) < (n : Int)) = true := by simp; omega
      have hql : q < L.length := by rw [HL.out]; exact hlt
      have hqr : q < (L.map Rv.r).length := by rw [HRL.out]; exact hlt
      obtain ⟨b, off, rfl, hbl, k0, k1, k2, k3, k4, k5, k6, k7, k8, k9⟩ := h.at hql
      have c0 := (hbr.cell (p := ⟨b, off + q * 10, none⟩) hbl).trans k0
      have c1 := (hbr.cell (p := ⟨b, off + q * 10 + 1, none⟩) hbl).trans k1
      have c2 := (hbr.cell (p := ⟨b, off + q * 10 + 2, none⟩) hbl).trans k2
      have c3 := (hbr.cell (p := ⟨b, off + q * 10 + 3, none⟩) hbl).trans k3
      have c4 := (hbr.cell (p := ⟨b, off + q * 10 + 4, none⟩) hbl).trans k4
      have c5 := (hbr.cell (p := ⟨b, off + q * 10 + 5, none⟩) hbl).trans k5
      have c6 := (hbr.cell (p := ⟨b, off + q * 10 + 6, none⟩) hbl).trans k6
      have c7 := (hbr.cell (p := ⟨b, off + q * 10 + 7, none⟩) hbl).trans k7
      have c8 := (hbr.cell (p := ⟨b, off + q * 10 + 8, none⟩) hbl).trans k8
      have c9 := (hbr.cell (p := ⟨b, off + q * 10 + 9, none⟩) hbl).trans k9
      have hx := (h.2.1 _ (List.getElem_mem hql)).on hbr
      have hrq : (L.map Rv.r)[q] = L[q].r := by simp
      have hbad : L[q].r.err ≠ 0 → repsErr (L.map Rv.r) = L[q].r.err := fun he => by
        have := repsErr_bad hqr HOK.out (by rw [hrq]; exact he)
        rw [this, hrq]
      have hgood : L[q].r.err = 0 → ∀ r ∈ (L.map Rv.r).take (q + 1), r.err = 0 := fun he r hr => by
        rw [List.take_add_one, List.getElem?_eq_getElem hqr, hrq] at hr
        rcases List.mem_append.1 hr with hr | hr
        · exact HOK.out r hr
        · simp at hr
          subst hr
          exact he
      have HBAD := Lib.hid hbad
      have HGOOD := Lib.hid hgood
      clear hbad hgood hrq k0 k1 k2 k3 k4 k5 k6 k7 k8 k9 h HOK
      generalize L[q] = x at c0 c1 c2 c3 c4 c5 c6 c7 c8 c9 hx HBAD HGOOD
      have he12 := Rep.err_12 x.r
      have hrt := fun W h => RP.rtcp_Right x W h
      obtain ⟨r, At, ct, Aa, ca, An, cn, Ab, cb⟩ := x
      simp only [Rv.val, Rv.cells] at hrt c0 c1 c2 c3 c4 c5 c6 c7 c8 c9 HBAD HGOOD he12
      generalize r.err = er at hrt HBAD HGOOD he12
      have hbA := hbr.alloc hbr.size (.cells #[.int .i64 r.kind, .int .u32 (r.src : Int), .int .u32 (r.about : Int), .slice At r.tups.length ct, .slice Aa r.abouts.length ca, .slice An r.nums.length cn, .int .u64 (r.rate : Int), .int .i64 r.ty, .int .i64 r.count, .slice Ab r.body.length cb] 33)
      have hxA := hx.on ((Below.refl _ wr).alloc (Nat.le_refl _) (.cells #[.int .i64 r.kind, .int .u32 (r.src : Int), .int .u32 (r.about : Int), .slice At r.tups.length ct, .slice Aa r.abouts.length ca, .slice An r.nums.length cn, .int .u64 (r.rate : Int), .int .i64 r.ty, .int .i64 r.count, .slice Ab r.body.length cb] 33))
      go_upto_region 6 with (fail)
      have hrt := hrt _ hxA
      clear hxA hx c0 c1 c2 c3 c4 c5 c6 c7 c8 c9
      go_wp2_with fail
      ((with_reducible refine hrt.mono ?_); rintro e w1 ⟨rfl, b1⟩)
      have b2 := hbA.trans (b1.mono hbA.size)
      clear hrt hbA b1 hbr
      by_cases hz : er = 0
      · subst hz
        go_wp2_with fail
        go_roundw
        case rel => exact ⟨q + 1, by omega, by go_num, HGOOD.out (by simp), b2⟩
        case measure => simp [intOf]; omega
      · have hz' : (er != 0) = true := by simpa using hz
        have HE := Lib.hid (HBAD.out hz)
        have hzz := Lib.hid hz
        clear hz HBAD HGOOD he12
        go_wp2_with fail
        go_ret2
        exact ⟨fun hh => by rw [HE.out] at hh; exact absurd hh hzz.out, fun _ => ⟨by rw [HE.out]; rfl, b2⟩⟩
    · have g3 : ¬ (q : Int) < (n : Int) := by omega
      have hall : ∀ r ∈ L.map Rv.r, r.err = 0 := by
        have := HOK.out
        rwa [List.take_of_length_le (by rw [HRL.out]; omega)] at this
      have HALL := Lib.hid hall
      clear hall HOK
      go_wp2_with fail
      go_loopw [7, 27] (fun v i wr => ∃ q : Nat, q ≤ n ∧ i = .int .i64 (q : Int) ∧ (∃ A1 m1 c1, v = .slice A1 m1 c1 ∧ R8 wr wr.heap.size A1 m1 c1 (onesB ((L.map Rv.r).take q)) ∧ m1 ≤ 1500) ∧ Below w.heap.size w wr) (fun _ i _ => n - (intOf i).toNat)
      case atStart => exact ⟨0, by omega, rfl, ⟨none, 0, 0, rfl, R8.nil _ _ _ _, by omega⟩, hbr⟩
      case round =>
        obtain ⟨p, hp, rfl, ⟨Ar, mr, cr, rfl, hr0, hmr⟩, hbr⟩ := hrel
        by_cases hlt : p < n
        · have g3 : decide ((p : Int) < (n : Int)) = true := by simp; omega
          have hql : p < L.length := by rw [HL.out]; exact hlt
          have hqr : p < (L.map Rv.r).length := by rw [HRL.out]; exact hlt
          obtain ⟨b, off, rfl, hbl, k0, k1, k2, k3, k4, k5, k6, k7, k8, k9⟩ := h.at hql
          have c0 := (hbr.cell (p := ⟨b, off + p * 10, none⟩) hbl).trans k0
          have c1 := (hbr.cell (p := ⟨b, off + p * 10 + 1, none⟩) hbl).trans k1
          have c2 := (hbr.cell (p := ⟨b, off + p * 10 + 2, none⟩) hbl).trans k2
          have c3 := (hbr.cell (p := ⟨b, off + p * 10 + 3, none⟩) hbl).trans k3
          have c4 := (hbr.cell (p := ⟨b, off + p * 10 + 4, none⟩) hbl).trans k4
          have c5 := (hbr.cell (p := ⟨b, off + p * 10 + 5, none⟩) hbl).trans k5
          have c6 := (hbr.cell (p := ⟨b, off + p * 10 + 6, none⟩) hbl).trans k6
          have c7 := (hbr.cell (p := ⟨b, off + p * 10 + 7, none⟩) hbl).trans k7
          have c8 := (hbr.cell (p := ⟨b, off + p * 10 + 8, none⟩) hbl).trans k8
          have c9 := (hbr.cell (p := ⟨b, off + p * 10 + 9, none⟩) hbl).trans k9
          have hx := (h.2.1 _ (List.getElem_mem hql)).on hbr
          have her := HALL.out _ (List.getElem_mem hqr)
          have hrq : (L.map Rv.r)[p] = L[p].r := by simp
          have htk := ones_take hqr
          rw [hrq] at her htk
          have HTK := Lib.hid htk
          have hlen : (onesB ((L.map Rv.r).take p)).length ≤ 262144000 := by
            have h1 := ones_le (l := (L.map Rv.r).take p) (fun r hr => HALL.out r (List.mem_of_mem_take hr))
            have h2 : ((L.map Rv.r).take p).length ≤ 1000 := by rw [List.length_take, HRL.out]; omega
            exact Nat.le_trans h1 (Nat.le_trans (Nat.mul_le_mul_right 262144 h2) (by decide))
          have h1l := Rep.one_len L[p].r
          have h1t := Rep.tail_le her
          clear hrq htk k0 k1 k2 k3 k4 k5 k6 k7 k8 k9 h
          generalize onesB ((L.map Rv.r).take p) = R at hr0 HTK hlen
          generalize L[p] = x at c0 c1 c2 c3 c4 c5 c6 c7 c8 c9 hx HTK her h1l h1t
          have hon := fun W h => rtcp_bytesOf x W h her
          have hole : x.r.one.length ≤ 262144 := by omega
          obtain ⟨r, At, ct, Aa, ca, An, cn, Ab, cb⟩ := x
          simp only [Rv.val, Rv.cells] at hon c0 c1 c2 c3 c4 c5 c6 c7 c8 c9 HTK hole
          have hbA := hbr.alloc hbr.size (.cells #[.int .i64 r.kind, .int .u32 (r.src : Int), .int .u32 (r.about : Int), .slice At r.tups.length ct, .slice Aa r.abouts.length ca, .slice An r.nums.length cn, .int .u64 (r.rate : Int), .int .i64 r.ty, .int .i64 r.count, .slice Ab r.body.length cb] 33)
          have hal := (Below.refl wr.heap.size wr).alloc (Nat.le_refl _) (.cells #[.int .i64 r.kind, .int .u32 (r.src : Int), .int .u32 (r.about : Int), .slice At r.tups.length ct, .slice Aa r.abouts.length ca, .slice An r.nums.length cn, .int .u64 (r.rate : Int), .int .i64 r.ty, .int .i64 r.count, .slice Ab r.body.length cb] 33)
          have hxA := hx.on hal
          have hrA := hr0.on hal
          go_upto_region 14 with (fail)
          have hon := hon _ hxA
          clear hxA hx c0 c1 c2 c3 c4 c5 c6 c7 c8 c9 h1l h1t her hr0 hal
          go_wp2_with fail
          ((with_reducible refine hon.mono ?_); rintro e w1 ⟨A1, n1, c1, rfl, r1, b1⟩)
          have b2 := hbA.trans (b1.mono hbA.size)
          have hr1 := hrA.on b1
          have hn1 := r1.1
          have hcc := concat2_at w1.heap.size Ar A1 mr cr n1 c1 _ _ w1 rfl hr1 r1 (by omega)
          have e7 : R ++ r.one = onesB ((L.map Rv.r).take (p + 1)) := HTK.out
          rw [e7] at hcc
          have hs2 := b2.size
          clear hon hbA b1 hbr hrA hr1 r1 e7 hn1
          go_wp2_with fail
          ((with_reducible refine hcc.mono ?_); rintro e w4 ⟨A4, n4, c4, rfl, r4, b4⟩)
          have b5 := b2.trans ((((Below.refl w1.heap.size w1).alloc (Nat.le_refl _) (.cells #[.slice Ar mr cr, .slice A1 n1 c1] 31)).trans (b4.mono (by simp))).mono hs2)
          have hn4 : n4 ≤ (onesB (L.map Rv.r)).length := by rw [← r4.1]; exact ones_mono _ _
          clear hcc b4 b2 hs2
          by_cases hl : 1500 < n4
          · have hre := repsErr_ok (by rw [HRL.out]; omega) HALL.out
            rw [if_pos (by omega)] at hre
            have HRE := Lib.hid hre
            have g5 : (1500 : Int) < (n4 : Int) := by omega
            clear hre hl hn4 r4
            go_wp2_with fail
            go_ret2
            exact ⟨fun hh => by rw [HRE.out] at hh; omega, fun _ => ⟨by rw [HRE.out]; rfl, b5⟩⟩
          · have g5 : ¬ (1500 : Int) < (n4 : Int) := by omega
            have hl' : n4 ≤ 1500 := by omega
            clear hl hn4
            go_wp2_with fail
            go_roundw
            case rel => exact ⟨p + 1, by omega, by go_num, ⟨_, _, _, rfl, r4, hl'⟩, b5⟩
            case measure => simp [intOf]; omega
        · have g3 : ¬ (p : Int) < (n : Int) := by omega
          rw [List.take_of_length_le (by rw [HRL.out]; omega)] at hr0
          have hre := repsErr_ok (by rw [HRL.out]; omega) HALL.out
          rw [if_neg (by rw [hr0.1]; omega)] at hre
          unfold RqOut
          have HRE := Lib.hid hre
          clear hre h
          go_wp2_with fail
          go_ret2
          exact ⟨fun _ => ⟨_, _, _, rfl, hr0, hbr⟩, fun hh => absurd HRE.out hh⟩
end Go.Proofs.Ytnchgmemajmkjaa
