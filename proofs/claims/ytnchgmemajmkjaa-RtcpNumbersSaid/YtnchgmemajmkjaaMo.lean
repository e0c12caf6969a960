/- Contract: limelightlaw6.tape. Contract: limelightlaw6.odd (written by gen_rco6.py). Contract: limelightlaw6.odd: the way that appends a word. Contract: limelightlaw6.odd: the way that appends a number. Contract: limelightlaw6.odd: the way that appends a tuple. append of so many noughts onto a row of bytes that the call owns (append(s, make([]byte, k)...), k an int64). No program's function. Contract: limelightlaw6.odd: the way that appends noughts to the body; odd itself. What the walk of limelightlaw6.RtcpTells takes: bytes ahead of a row that came in; reports that a call answers. No program's function. -/
import Derived.Test.YtnchgmemajmkjaaTape
import Derived.Test.YtnchgmemajmkjaaAppV
import Derived.Test.YtnchgmemajmkjaaRcF
import Derived.Test.YtnchgmemajmkjaaRcZ
import Derived.Test.YtnchgmemajmkjaaMt
import Derived.Test.YtnchgmemajmkjaaRcG
import Derived.Test.YtnchgmemajmkjaaBase
import Derived.Lib.AppendZerosOnto
import Derived.Test.YtnchgmemajmkjaaMq
import Derived.Test.YtnchgmemajmkjaaMr
import Derived.Test.YtnchgmemajmkjaaRegP
import Derived.ArgAppend
import Derived.Laws.Closers25b
namespace Go.Proofs.Ytnchgmemajmkjaa
open Go.RowKit
set_option linter.unusedVariables false
set_option linter.unusedSimpArgs false
set_option maxRecDepth 20000

theorem i64_info : (Try.prog.info? 3).map (fun i => (i.zero, i.size, i.bytes)) = some (some (.int .i64 0), 1, 8) := by kernel_rfl
theorem OwnI.nil (w : World) (base : Nat) : OwnI w base (.slice none 0 0) [] := ⟨rfl, .inl ⟨rfl, rfl⟩⟩
theorem OwnI.ri {w : World} {base : Nat} {v : Value} {l : List Int} (h : OwnI w base v l) (hl : ∀ x ∈ l, I64 x) : ∃ A c, v = .slice A l.length c ∧ RI w w.heap.size A l.length c := by
  rcases h.2 with ⟨hv, h0⟩ | ⟨g, cap, cur, hv, hb, hg, hc1, hc2, hc3, hc4⟩
  · have hl0 : l = [] := List.length_eq_zero_iff.1 h0
    subst hl0
    exact ⟨none, 0, hv, Nat.le_refl _, fun h => absurd h (by simp)⟩
  · refine ⟨_, _, hv, hc1, fun hn => ⟨g, 0, rfl, (Array.getElem?_eq_some_iff.1 hg).1, fun i hi => ⟨l.getD i 0, ?_, ?_⟩⟩⟩
    · rw [List.getD_eq_getElem?_getD, List.getElem?_eq_getElem hi]
      exact hl _ (List.getElem_mem hi)
    · have hcell : cur.toList[i]? = (l.map iv)[i]? := by
        rw [← hc4, List.getElem?_take, if_pos (by omega)]
      rw [Nat.zero_add, World.cell?, hg]
      simp only [← Array.getElem?_toList, hcell, List.getElem?_map]
      simp [List.getD, hi, iv]
theorem one_int (w : World) (x : Int) : ∀ j u, [iv x][j]? = some u → (w.alloc (.cells #[.int .i64 x] 3)).cell? ((⟨w.heap.size, 0, none⟩ : Addr).add j) = some u := by
  intro j u hj
  match j, hj with
  | 0, hj =>
    simp at hj
    subst hj
    simp [Addr.add, iv]
theorem one_int_cell (x : Int) : ∀ u ∈ [iv x], u.oneCell' = true := by
  intro u hu
  rw [List.mem_singleton.1 hu]
  rfl
set_option maxRecDepth 100000 in
/-- Four hundred numbers, in memory of their own. -/
theorem law_tape6 (k : Nat) (hk : k ≤ 60) (w : World) :
    Calls Try.prog 9 #[.int .i64 (k : Int)] w fun e w' => ∃ A c, e = .returned (.slice A 400 c) ∧ RI w' w'.heap.size A 400 c ∧ Below w.heap.size w w' := by
  go_enter Try.func9, Try.ntmps9
  go_wp2_with fail
  go_loopw [3, 4] (fun v i wr => ∃ (q : Nat) (l : List Int), q ≤ 400 ∧ i = .int .i64 (q : Int) ∧ l.length = q ∧ (∀ x ∈ l, I64 x) ∧ OwnI wr w.heap.size v l ∧ Below w.heap.size w wr) (fun _ i _ => 400 - (intOf i).toNat)
  case atStart => exact ⟨0, [], by omega, rfl, rfl, by simp, OwnI.nil _ _, Below.refl _ _⟩
  case round =>
    obtain ⟨q, l, hq, rfl, hl, hw, ho, hb⟩ := hrel
    by_cases hlt : q < 400
    · have g3 : (q : Int) < 400 := by omega
      have hs := hb.size
      have hl1 := Lib.hid (show l.length + 1 ≤ maxLen by simp only [maxLen]; omega)
      have hl2 := Lib.hid (show (l.length + 1) * 8 ≤ 140737488355328 by omega)
      have hlh := Lib.hid hl
      clear hl
      have hE : I64 ((wrap64 (wrap64 (wrap64 (wrap64 ((q : Int) * (q : Int)) * 7) + (k : Int) * 31) + wrap64 ((q : Int) * (k : Int)))).tmod 211) := by
        have m1 := Int.lt_tmod_of_pos (wrap64 (wrap64 (wrap64 (wrap64 ((q : Int) * (q : Int)) * 7) + (k : Int) * 31) + wrap64 ((q : Int) * (k : Int)))) (show (0 : Int) < 211 by omega)
        have m2 := Int.tmod_lt_of_pos (wrap64 (wrap64 (wrap64 (wrap64 ((q : Int) * (q : Int)) * 7) + (k : Int) * 31) + wrap64 ((q : Int) * (k : Int)))) (show (0 : Int) < 211 by omega)
        unfold I64
        omega
      have hEh := Lib.hid hE
      clear hE
      go_wp2_with (at_builtin; ((with_reducible refine wpList_appendG rfl (.tmp 9) (.tmp 22) 23 23 3 rfl rfl _ 1 8 Try.underlying23 i64_info rfl (by decide) w.heap.size _ l.length (l.map iv) (by with_unfolding_all rfl) (by with_unfolding_all exact World.ownsRow.alloc ho _) (⟨wr.heap.size, 0, none⟩) 1 1 [iv ((wrap64 (wrap64 (wrap64 (wrap64 ((q : Int) * (q : Int)) * 7) + (k : Int) * 31) + wrap64 ((q : Int) * (k : Int)))).tmod 211)] (by with_unfolding_all rfl) rfl (by with_unfolding_all exact one_int wr ((wrap64 (wrap64 (wrap64 (wrap64 ((q : Int) * (q : Int)) * 7) + (k : Int) * 31) + wrap64 ((q : Int) * (k : Int)))).tmod 211)) (one_int_cell _) hl1.out hl2.out (le_alloc hs _) ?_); intro v9 w9 ha9))
      have ho9 : OwnI w9 w.heap.size v9 (l ++ [(wrap64 (wrap64 (wrap64 (wrap64 ((q : Int) * (q : Int)) * 7) + (k : Int) * 31) + wrap64 ((q : Int) * (k : Int)))).tmod 211]) := by
        unfold OwnI
        rw [List.length_append, List.map_append]
        exact ha9.1
      have hb9 := ha9.below (hb.alloc hs _) (le_alloc hs _) (by with_unfolding_all exact World.ownsRow.alloc ho _) (Nat.le_refl _)
      clear ho hb ha9
      go_roundw
      case rel =>
        refine ⟨q + 1, _, by omega, by first | rfl | (congr 1; omega) | (congr 1; unfold wrap64; omega), ?_, ?_, ho9, hb9⟩
        · rw [List.length_append, hlh.out]; rfl
        · intro x hx
          rcases List.mem_append.1 hx with hx | hx
          · exact hw x hx
          · rw [List.mem_singleton.1 hx]; exact hEh.out
      case measure => simp [intOf]; omega
    · have g3 : ¬ (q : Int) < 400 := by omega
      have hqe : q = 400 := by omega
      obtain ⟨A, c, rfl, hr⟩ := ho.ri hw
      rw [hl, hqe] at hr ⊢
      have hrh := Lib.hid hr
      clear hr ho hqe hl
      go_wp2_with fail
      go_ret
      exact ⟨A, c, rfl, hrh.out, hb⟩
end Go.Proofs.Ytnchgmemajmkjaa
namespace Go.Proofs.Ytnchgmemajmkjaa
open Go.RowKit
set_option linter.unusedVariables false
set_option linter.unusedSimpArgs false
set_option maxRecDepth 20000

/-- A report's value that reads as r. -/
def OddOut (w : World) (r : Rep) (e : Ending) (w' : World) : Prop := ∃ x : Rv, e = .returned x.val ∧ x.r = r ∧ IsR w' w'.heap.size x ∧ Below w.heap.size w w'
set_option maxHeartbeats 1000000 in
theorem odd_0 (x : Rv) (what n : Int) (w : World) (hx : IsR w w.heap.size x) (hn : I64 n) (hwi : ∀ W, Calls Try.prog 16 #[.int .i64 what, .int .i64 0, .int .i64 10] W fun e w' => e = .returned (.int .i64 0) ∧ w' = W) :
    Calls Try.prog 12 #[x.val, .int .i64 what, .int .i64 n] w (OddOut w { x.r with kind := n }) := by
  obtain ⟨⟨kind, src, about, tups, abouts, nums, rate, ty, count, body⟩, At, ct, Aa, ca, An, cn, Ab, cb⟩ := x
  simp only [Rv.val, Rv.cells]
  have hk := hx.kinds
  have h1 := hx.tups
  have h2 := hx.abouts
  have h3 := hx.nums
  have h4 := hx.body
  have HX := Lib.hid hx
  have HK := Lib.hid hk
  clear hx hk h1 h2 h3 h4
  go_enter Try.func12, Try.ntmps12
  go_wp2_with fail
  ((with_reducible refine (hwi _).mono ?_); rintro e w1 ⟨rfl, rfl⟩)
  clear hwi
  go_wp2_with fail
  have hbb := ((Below.refl w.heap.size w).alloc (Nat.le_refl _) (.cells #[.int .i64 n, .int .u32 (src : Int), .int .u32 (about : Int), .slice At tups.length ct, .slice Aa abouts.length ca, .slice An nums.length cn, .int .u64 (rate : Int), .int .i64 ty, .int .i64 count, .slice Ab body.length cb] 33)).alloc (by simp) (.cells #[.int .i64 n, .int .u32 (src : Int), .int .u32 (about : Int), .slice At tups.length ct, .slice Aa abouts.length ca, .slice An nums.length cn, .int .u64 (rate : Int), .int .i64 ty, .int .i64 count, .slice Ab body.length cb] 33)
  refine bodyPost_ret (by simp [results, Try.results12, go_sem]; try rfl) rfl ?_
  have hx := HX.out
  exact ⟨⟨{ (⟨kind, src, about, tups, abouts, nums, rate, ty, count, body⟩ : Rep) with kind := n }, At, ct, Aa, ca, An, cn, Ab, cb⟩, rfl, rfl, IsR.on (⟨hx.tups, hx.abouts, hx.nums, hx.body, { hx.kinds with kind := hn }⟩) hbb, hbb⟩
set_option maxHeartbeats 1000000 in
theorem odd_1 (x : Rv) (what n : Int) (w : World) (hx : IsR w w.heap.size x) (hn : I64 n) (hwi : ∀ W, Calls Try.prog 16 #[.int .i64 what, .int .i64 0, .int .i64 10] W fun e w' => e = .returned (.int .i64 1) ∧ w' = W) :
    Calls Try.prog 12 #[x.val, .int .i64 what, .int .i64 n] w (OddOut w { x.r with src := (n % 4294967296).toNat }) := by
  obtain ⟨⟨kind, src, about, tups, abouts, nums, rate, ty, count, body⟩, At, ct, Aa, ca, An, cn, Ab, cb⟩ := x
  simp only [Rv.val, Rv.cells]
  have hz : IntKind.u32.wrap n = (((n % 4294967296).toNat : Nat) : Int) := by rw [IntKind.wrap_u32]; omega
  have hzl : (n % 4294967296).toNat < 4294967296 := by omega
  generalize (n % 4294967296).toNat = z at *
  have hk := hx.kinds
  have h1 := hx.tups
  have h2 := hx.abouts
  have h3 := hx.nums
  have h4 := hx.body
  have HX := Lib.hid hx
  have HK := Lib.hid hk
  clear hx hk h1 h2 h3 h4
  go_enter Try.func12, Try.ntmps12
  go_wp2_with fail
  ((with_reducible refine (hwi _).mono ?_); rintro e w1 ⟨rfl, rfl⟩)
  clear hwi
  go_wp2_with fail
  have hbb := ((Below.refl w.heap.size w).alloc (Nat.le_refl _) (.cells #[.int .i64 kind, .int .u32 (z : Int), .int .u32 (about : Int), .slice At tups.length ct, .slice Aa abouts.length ca, .slice An nums.length cn, .int .u64 (rate : Int), .int .i64 ty, .int .i64 count, .slice Ab body.length cb] 33)).alloc (by simp) (.cells #[.int .i64 kind, .int .u32 (z : Int), .int .u32 (about : Int), .slice At tups.length ct, .slice Aa abouts.length ca, .slice An nums.length cn, .int .u64 (rate : Int), .int .i64 ty, .int .i64 count, .slice Ab body.length cb] 33)
  refine bodyPost_ret (by simp [results, Try.results12, go_sem]; try rfl) rfl ?_
  have hx := HX.out
  exact ⟨⟨{ (⟨kind, src, about, tups, abouts, nums, rate, ty, count, body⟩ : Rep) with src := z }, At, ct, Aa, ca, An, cn, Ab, cb⟩, rfl, rfl, IsR.on (⟨hx.tups, hx.abouts, hx.nums, hx.body, { hx.kinds with src := hzl }⟩) hbb, hbb⟩
set_option maxHeartbeats 1000000 in
theorem odd_2 (x : Rv) (what n : Int) (w : World) (hx : IsR w w.heap.size x) (hn : I64 n) (hwi : ∀ W, Calls Try.prog 16 #[.int .i64 what, .int .i64 0, .int .i64 10] W fun e w' => e = .returned (.int .i64 2) ∧ w' = W) :
    Calls Try.prog 12 #[x.val, .int .i64 what, .int .i64 n] w (OddOut w { x.r with about := (n % 4294967296).toNat }) := by
  obtain ⟨⟨kind, src, about, tups, abouts, nums, rate, ty, count, body⟩, At, ct, Aa, ca, An, cn, Ab, cb⟩ := x
  simp only [Rv.val, Rv.cells]
  have hz : IntKind.u32.wrap n = (((n % 4294967296).toNat : Nat) : Int) := by rw [IntKind.wrap_u32]; omega
  have hzl : (n % 4294967296).toNat < 4294967296 := by omega
  generalize (n % 4294967296).toNat = z at *
  have hk := hx.kinds
  have h1 := hx.tups
  have h2 := hx.abouts
  have h3 := hx.nums
  have h4 := hx.body
  have HX := Lib.hid hx
  have HK := Lib.hid hk
  clear hx hk h1 h2 h3 h4
  go_enter Try.func12, Try.ntmps12
  go_wp2_with fail
  ((with_reducible refine (hwi _).mono ?_); rintro e w1 ⟨rfl, rfl⟩)
  clear hwi
  go_wp2_with fail
  have hbb := ((Below.refl w.heap.size w).alloc (Nat.le_refl _) (.cells #[.int .i64 kind, .int .u32 (src : Int), .int .u32 (z : Int), .slice At tups.length ct, .slice Aa abouts.length ca, .slice An nums.length cn, .int .u64 (rate : Int), .int .i64 ty, .int .i64 count, .slice Ab body.length cb] 33)).alloc (by simp) (.cells #[.int .i64 kind, .int .u32 (src : Int), .int .u32 (z : Int), .slice At tups.length ct, .slice Aa abouts.length ca, .slice An nums.length cn, .int .u64 (rate : Int), .int .i64 ty, .int .i64 count, .slice Ab body.length cb] 33)
  refine bodyPost_ret (by simp [results, Try.results12, go_sem]; try rfl) rfl ?_
  have hx := HX.out
  exact ⟨⟨{ (⟨kind, src, about, tups, abouts, nums, rate, ty, count, body⟩ : Rep) with about := z }, At, ct, Aa, ca, An, cn, Ab, cb⟩, rfl, rfl, IsR.on (⟨hx.tups, hx.abouts, hx.nums, hx.body, { hx.kinds with about := hzl }⟩) hbb, hbb⟩
set_option maxHeartbeats 1000000 in
theorem odd_3 (x : Rv) (what n : Int) (w : World) (hx : IsR w w.heap.size x) (hn : I64 n) (hwi : ∀ W, Calls Try.prog 16 #[.int .i64 what, .int .i64 0, .int .i64 10] W fun e w' => e = .returned (.int .i64 3) ∧ w' = W) :
    Calls Try.prog 12 #[x.val, .int .i64 what, .int .i64 n] w (OddOut w { x.r with rate := (n % 18446744073709551616).toNat }) := by
  obtain ⟨⟨kind, src, about, tups, abouts, nums, rate, ty, count, body⟩, At, ct, Aa, ca, An, cn, Ab, cb⟩ := x
  simp only [Rv.val, Rv.cells]
  have hz : IntKind.u64.wrap n = (((n % 18446744073709551616).toNat : Nat) : Int) := by rw [IntKind.wrap_u64]; omega
  have hzl : (n % 18446744073709551616).toNat < 18446744073709551616 := by omega
  generalize (n % 18446744073709551616).toNat = z at *
  have hk := hx.kinds
  have h1 := hx.tups
  have h2 := hx.abouts
  have h3 := hx.nums
  have h4 := hx.body
  have HX := Lib.hid hx
  have HK := Lib.hid hk
  clear hx hk h1 h2 h3 h4
  go_enter Try.func12, Try.ntmps12
  go_wp2_with fail
  ((with_reducible refine (hwi _).mono ?_); rintro e w1 ⟨rfl, rfl⟩)
  clear hwi
  go_wp2_with fail
  have hbb := ((Below.refl w.heap.size w).alloc (Nat.le_refl _) (.cells #[.int .i64 kind, .int .u32 (src : Int), .int .u32 (about : Int), .slice At tups.length ct, .slice Aa abouts.length ca, .slice An nums.length cn, .int .u64 (z : Int), .int .i64 ty, .int .i64 count, .slice Ab body.length cb] 33)).alloc (by simp) (.cells #[.int .i64 kind, .int .u32 (src : Int), .int .u32 (about : Int), .slice At tups.length ct, .slice Aa abouts.length ca, .slice An nums.length cn, .int .u64 (z : Int), .int .i64 ty, .int .i64 count, .slice Ab body.length cb] 33)
  refine bodyPost_ret (by simp [results, Try.results12, go_sem]; try rfl) rfl ?_
  have hx := HX.out
  exact ⟨⟨{ (⟨kind, src, about, tups, abouts, nums, rate, ty, count, body⟩ : Rep) with rate := z }, At, ct, Aa, ca, An, cn, Ab, cb⟩, rfl, rfl, IsR.on (⟨hx.tups, hx.abouts, hx.nums, hx.body, { hx.kinds with rate := hzl }⟩) hbb, hbb⟩
set_option maxHeartbeats 1000000 in
theorem odd_8 (x : Rv) (what n : Int) (w : World) (hx : IsR w w.heap.size x) (hn : I64 n) (hwi : ∀ W, Calls Try.prog 16 #[.int .i64 what, .int .i64 0, .int .i64 10] W fun e w' => e = .returned (.int .i64 8) ∧ w' = W) :
    Calls Try.prog 12 #[x.val, .int .i64 what, .int .i64 n] w (OddOut w { x.r with ty := n }) := by
  obtain ⟨⟨kind, src, about, tups, abouts, nums, rate, ty, count, body⟩, At, ct, Aa, ca, An, cn, Ab, cb⟩ := x
  simp only [Rv.val, Rv.cells]
  have hk := hx.kinds
  have h1 := hx.tups
  have h2 := hx.abouts
  have h3 := hx.nums
  have h4 := hx.body
  have HX := Lib.hid hx
  have HK := Lib.hid hk
  clear hx hk h1 h2 h3 h4
  go_enter Try.func12, Try.ntmps12
  go_wp2_with fail
  ((with_reducible refine (hwi _).mono ?_); rintro e w1 ⟨rfl, rfl⟩)
  clear hwi
  go_wp2_with fail
  have hbb := ((Below.refl w.heap.size w).alloc (Nat.le_refl _) (.cells #[.int .i64 kind, .int .u32 (src : Int), .int .u32 (about : Int), .slice At tups.length ct, .slice Aa abouts.length ca, .slice An nums.length cn, .int .u64 (rate : Int), .int .i64 n, .int .i64 count, .slice Ab body.length cb] 33)).alloc (by simp) (.cells #[.int .i64 kind, .int .u32 (src : Int), .int .u32 (about : Int), .slice At tups.length ct, .slice Aa abouts.length ca, .slice An nums.length cn, .int .u64 (rate : Int), .int .i64 n, .int .i64 count, .slice Ab body.length cb] 33)
  refine bodyPost_ret (by simp [results, Try.results12, go_sem]; try rfl) rfl ?_
  have hx := HX.out
  exact ⟨⟨{ (⟨kind, src, about, tups, abouts, nums, rate, ty, count, body⟩ : Rep) with ty := n }, At, ct, Aa, ca, An, cn, Ab, cb⟩, rfl, rfl, IsR.on (⟨hx.tups, hx.abouts, hx.nums, hx.body, { hx.kinds with ty := hn }⟩) hbb, hbb⟩
set_option maxHeartbeats 1000000 in
theorem odd_9 (x : Rv) (what n : Int) (w : World) (hx : IsR w w.heap.size x) (hn : I64 n) (hwi : ∀ W, Calls Try.prog 16 #[.int .i64 what, .int .i64 0, .int .i64 10] W fun e w' => e = .returned (.int .i64 9) ∧ w' = W) :
    Calls Try.prog 12 #[x.val, .int .i64 what, .int .i64 n] w (OddOut w { x.r with count := n }) := by
  obtain ⟨⟨kind, src, about, tups, abouts, nums, rate, ty, count, body⟩, At, ct, Aa, ca, An, cn, Ab, cb⟩ := x
  simp only [Rv.val, Rv.cells]
  have hk := hx.kinds
  have h1 := hx.tups
  have h2 := hx.abouts
  have h3 := hx.nums
  have h4 := hx.body
  have HX := Lib.hid hx
  have HK := Lib.hid hk
  clear hx hk h1 h2 h3 h4
  go_enter Try.func12, Try.ntmps12
  go_wp2_with fail
  ((with_reducible refine (hwi _).mono ?_); rintro e w1 ⟨rfl, rfl⟩)
  clear hwi
  go_wp2_with fail
  have hbb := ((Below.refl w.heap.size w).alloc (Nat.le_refl _) (.cells #[.int .i64 kind, .int .u32 (src : Int), .int .u32 (about : Int), .slice At tups.length ct, .slice Aa abouts.length ca, .slice An nums.length cn, .int .u64 (rate : Int), .int .i64 ty, .int .i64 n, .slice Ab body.length cb] 33)).alloc (by simp) (.cells #[.int .i64 kind, .int .u32 (src : Int), .int .u32 (about : Int), .slice At tups.length ct, .slice Aa abouts.length ca, .slice An nums.length cn, .int .u64 (rate : Int), .int .i64 ty, .int .i64 n, .slice Ab body.length cb] 33)
  refine bodyPost_ret (by simp [results, Try.results12, go_sem]; try rfl) rfl ?_
  have hx := HX.out
  exact ⟨⟨{ (⟨kind, src, about, tups, abouts, nums, rate, ty, count, body⟩ : Rep) with count := n }, At, ct, Aa, ca, An, cn, Ab, cb⟩, rfl, rfl, IsR.on (⟨hx.tups, hx.abouts, hx.nums, hx.body, { hx.kinds with count := hn }⟩) hbb, hbb⟩
end Go.Proofs.Ytnchgmemajmkjaa
namespace Go.Proofs.Ytnchgmemajmkjaa
open Go.RowKit
set_option linter.unusedVariables false
set_option linter.unusedSimpArgs false
set_option maxRecDepth 20000

theorem own32_none (w : World) (base : Nat) (hb : base ≤ w.heap.size) : Own32 (w.alloc (.cells #[] 27)) base (.slice (some ⟨w.heap.size, 0, none⟩) 0 0) [] :=
  ⟨rfl, .inr ⟨w.heap.size, 0, #[], rfl, hb, Blk.new _ _ _, Nat.le_refl _, by decide, rfl, rfl⟩⟩
theorem own32_at {w : World} {b : Nat} {v : Value} {l : List Nat} (h : Own32 w b v l) : ∀ k, v.ownBlock = some k → b ≤ k := by
  intro k hk
  rcases h.2 with ⟨hv, _⟩ | ⟨g, cap, cur, hv, hb, _⟩
  · subst hv
    simp [Value.ownBlock] at hk
  · subst hv
    simp [Value.ownBlock] at hk
    omega
theorem own32_alloc {w : World} {b : Nat} {v : Value} {l : List Nat} (h : Own32 w b v l) (o : Obj) : Own32 (w.alloc o) b v l := World.ownsRow.alloc h o
theorem own32_row {w : World} {b : Nat} {v : Value} {l : List Nat} (h : Own32 w b v l) (hl : ∀ x ∈ l, x < 4294967296) : ∃ A c, v = .slice A l.length c ∧ R32 w w.heap.size A l.length c l ∧ ∀ ad, A = some ad → b ≤ ad.block := by
  obtain ⟨A, c, e, r⟩ := h.r32 hl
  exact ⟨A, c, e, r, fun ad ha => own32_at h ad.block (by subst ha; rw [e]; rfl)⟩
theorem odd_step {w V W2 : World} {x z : Array Value} {v v2 : Value} {l : List Nat} (bV : Below w.heap.size w V) (B1 : Blk V w.heap.size 33 x) (C1 : Blk V (w.heap.size + 1) 33 z)
    (o2 : Own32 W2 (w.heap.size + 2) v2 l) (g2 : V.grownBy W2 v.ownBlock) (hs : w.heap.size + 2 ≤ V.heap.size) (hv : ∀ k, v.ownBlock = some k → w.heap.size + 2 ≤ k) :
    Own32 W2 (w.heap.size + 2) v2 l ∧ Below w.heap.size w W2 ∧ Blk W2 w.heap.size 33 x ∧ Blk W2 (w.heap.size + 1) 33 z ∧ w.heap.size + 2 ≤ W2.heap.size :=
  ⟨o2, below_grown bV (by omega) g2 (fun k hk => by have := hv k hk; omega), blk_grown B1 g2 (fun e => by have := hv _ e; omega), blk_grown C1 g2 (fun e => by have := hv _ e; omega), Nat.le_trans hs g2.size⟩
set_option maxHeartbeats 1000000 in
theorem odd_6 (x : Rv) (what n : Int) (w : World) (hx : IsR w w.heap.size x) (hn : I64 n) (hal : x.r.abouts.length ≤ 900000) (hwi : ∀ W, Calls Try.prog 16 #[.int .i64 what, .int .i64 0, .int .i64 10] W fun e w' => e = .returned (.int .i64 6) ∧ w' = W) :
    Calls Try.prog 12 #[x.val, .int .i64 what, .int .i64 n] w (OddOut w { x.r with abouts := x.r.abouts ++ [(n % 4294967296).toNat] }) := by
  obtain ⟨⟨kind, src, about, tups, abouts, nums, rate, ty, count, body⟩, At, ct, Aa, ca, An, cn, Ab, cb⟩ := x
  simp only [Rv.val, Rv.cells]
  have hz : IntKind.u32.wrap n = (((n % 4294967296).toNat : Nat) : Int) := by rw [IntKind.wrap_u32]; omega
  have hzl : (n % 4294967296).toNat < 4294967296 := by omega
  generalize (n % 4294967296).toNat = z at *
  have h2 := hx.abouts
  simp only at h2 hal
  have HX := Lib.hid hx
  have H2 := Lib.hid h2
  have HZ := Lib.hid hz
  have HALZ := Lib.hid (show ∀ q ∈ abouts ++ [z], q < 4294967296 from fun q hq => by
    rcases List.mem_append.1 hq with hq | hq
    · exact h2.2.2.1 q hq
    · rw [List.mem_singleton.1 hq]
      exact hzl)
  clear hx h2
  go_enter Try.func12, Try.ntmps12
  go_wp2_with fail
  ((with_reducible refine (hwi _).mono ?_); rintro e w1 ⟨rfl, rfl⟩)
  clear hwi
  go_upto_region 16 with (fail)
  have hs1 : (w.alloc (.cells #[.int .i64 kind, .int .u32 (src : Int), .int .u32 (about : Int), .slice At tups.length ct, .slice Aa abouts.length ca, .slice An nums.length cn, .int .u64 (rate : Int), .int .i64 ty, .int .i64 count, .slice Ab body.length cb] 33)).heap.size = w.heap.size + 1 := by simp
  have bW := ((Below.refl w.heap.size w).alloc (Nat.le_refl _) (.cells #[.int .i64 kind, .int .u32 (src : Int), .int .u32 (about : Int), .slice At tups.length ct, .slice Aa abouts.length ca, .slice An nums.length cn, .int .u64 (rate : Int), .int .i64 ty, .int .i64 count, .slice Ab body.length cb] 33)).alloc (by rw [hs1]; omega) (.cells #[.int .i64 0, .int .u32 0, .int .u32 0, .slice none 0 0, .slice none 0 0, .slice none 0 0, .int .u64 0, .int .i64 0, .int .i64 0, .slice none 0 0] 33)
  have B0 : Blk ((w.alloc (.cells #[.int .i64 kind, .int .u32 (src : Int), .int .u32 (about : Int), .slice At tups.length ct, .slice Aa abouts.length ca, .slice An nums.length cn, .int .u64 (rate : Int), .int .i64 ty, .int .i64 count, .slice Ab body.length cb] 33)).alloc (.cells #[.int .i64 0, .int .u32 0, .int .u32 0, .slice none 0 0, .slice none 0 0, .slice none 0 0, .int .u64 0, .int .i64 0, .int .i64 0, .slice none 0 0] 33)) w.heap.size 33 #[.int .i64 kind, .int .u32 (src : Int), .int .u32 (about : Int), .slice At tups.length ct, .slice Aa abouts.length ca, .slice An nums.length cn, .int .u64 (rate : Int), .int .i64 ty, .int .i64 count, .slice Ab body.length cb] := Blk.alloc (Blk.new _ _ _) _
  have C0 : Blk ((w.alloc (.cells #[.int .i64 kind, .int .u32 (src : Int), .int .u32 (about : Int), .slice At tups.length ct, .slice Aa abouts.length ca, .slice An nums.length cn, .int .u64 (rate : Int), .int .i64 ty, .int .i64 count, .slice Ab body.length cb] 33)).alloc (.cells #[.int .i64 0, .int .u32 0, .int .u32 0, .slice none 0 0, .slice none 0 0, .slice none 0 0, .int .u64 0, .int .i64 0, .int .i64 0, .slice none 0 0] 33)) (w.heap.size + 1) 33 #[.int .i64 0, .int .u32 0, .int .u32 0, .slice none 0 0, .slice none 0 0, .slice none 0 0, .int .u64 0, .int .i64 0, .int .i64 0, .slice none 0 0] := by
    have h := Blk.new (w.alloc (.cells #[.int .i64 kind, .int .u32 (src : Int), .int .u32 (about : Int), .slice At tups.length ct, .slice Aa abouts.length ca, .slice An nums.length cn, .int .u64 (rate : Int), .int .i64 ty, .int .i64 count, .slice Ab body.length cb] 33)) 33 #[.int .i64 0, .int .u32 0, .int .u32 0, .slice none 0 0, .slice none 0 0, .slice none 0 0, .int .u64 0, .int .i64 0, .int .i64 0, .slice none 0 0]
    rwa [hs1] at h
  have hsz : w.heap.size + 2 ≤ ((w.alloc (.cells #[.int .i64 kind, .int .u32 (src : Int), .int .u32 (about : Int), .slice At tups.length ct, .slice Aa abouts.length ca, .slice An nums.length cn, .int .u64 (rate : Int), .int .i64 ty, .int .i64 count, .slice Ab body.length cb] 33)).alloc (.cells #[.int .i64 0, .int .u32 0, .int .u32 0, .slice none 0 0, .slice none 0 0, .slice none 0 0, .int .u64 0, .int .i64 0, .int .i64 0, .slice none 0 0] 33)).heap.size := by simp
  clear hs1
  generalize (w.alloc (.cells #[.int .i64 kind, .int .u32 (src : Int), .int .u32 (about : Int), .slice At tups.length ct, .slice Aa abouts.length ca, .slice An nums.length cn, .int .u64 (rate : Int), .int .i64 ty, .int .i64 count, .slice Ab body.length cb] 33)).alloc (.cells #[.int .i64 0, .int .u32 0, .int .u32 0, .slice none 0 0, .slice none 0 0, .slice none 0 0, .int .u64 0, .int .i64 0, .int .i64 0, .slice none 0 0] 33) = V at *
  have hr := H2.out.on (bW.alloc (by omega) (.cells #[] 27))
  have ho := own32_none V (w.heap.size + 2) hsz
  have hbs : w.heap.size + 2 ≤ (V.alloc (.cells #[] 27)).heap.size := by have := (Below.refl V.heap.size V).alloc (Nat.le_refl _) (.cells #[] 27) |>.size; omega
  have bV := bW.alloc (by omega) (.cells #[] 27)
  have B1 := Blk.alloc B0 (.cells #[] 27)
  have C1 := Blk.alloc C0 (.cells #[] 27)
  have y4 : V.cell? ⟨w.heap.size, 4, none⟩ = some (.slice Aa abouts.length ca) := (B0.cell 4).trans rfl
  have hv0 : w.heap.size < V.heap.size := by omega
  have HR := Lib.hid hr
  have HO := Lib.hid ho
  have HBS := Lib.hid hbs
  have HAL := Lib.hid (show ([] : List Nat).length + abouts.length ≤ 1000000 by simp; omega)
  have HALL := Lib.hid hal
  have HSZ := Lib.hid hsz
  have hne : V.heap.size ≠ w.heap.size := by omega
  have hne1 : V.heap.size ≠ w.heap.size + 1 := by omega
  have HNE := Lib.hid hne
  have HNE1 := Lib.hid hne1
  clear hr ho hbs B0 C0 hsz hal hne hne1 bW
  go_wp2_with (at_builtin; first
    | ((with_reducible refine wpList_append32 rfl (.tmp 62) (.tmp 64) rfl rfl (w.heap.size + 2) _ _ (by with_unfolding_all rfl) HO.out _ Aa abouts.length ca abouts (by with_unfolding_all rfl) HR.out HAL.out HBS.out ?_); intro v2 W2 h2; obtain ⟨o2, g2⟩ := h2; have q2 := odd_step (bV := bV) (B1 := B1) (C1 := C1) o2 g2 HBS.out (own32_at HO.out); clear bV B1 C1 o2 g2; obtain ⟨o2, b2, B2, C2, s2⟩ := q2; have HAL2 := Lib.hid (show abouts.length + 1 ≤ 1000000 by have := HALL.out; omega); have HBS2 := Lib.hid (fun o => Nat.le_trans s2 ((Below.refl W2.heap.size W2).alloc (Nat.le_refl _) o).size); have o2 : Own32 W2 (w.heap.size + 2) v2 abouts := o2)
    | go_loud ((with_reducible refine wpList_append32 rfl (.tmp 65) (.tmp 68) rfl rfl (w.heap.size + 2) _ _ (by with_unfolding_all rfl) (own32_alloc o2 _) _ _ 1 1 [z] (by with_unfolding_all rfl) (lit_r32 [z] _ 1 _ _ rfl rfl rfl (by simpa using hzl)) HAL2.out (HBS2.out _) ?_); intro v3 W3 h3; obtain ⟨o3, g3⟩ := h3; have q3 := odd_step (bV := b2.alloc (by omega) _) (B1 := Blk.alloc B2 _) (C1 := Blk.alloc C2 _) o3 g3 (HBS2.out _) (own32_at o2); clear b2 B2 C2 o2 o3 g3 s2; obtain ⟨o3, b3, B3, C3, s3⟩ := q3; obtain ⟨A3, c3, rfl, r3, a3⟩ := own32_row o3 HALZ.out; have R3 := Lib.hid r3; have A3' := Lib.hid a3; have B3' := Lib.hid B3; have C3' := Lib.hid C3; clear r3 a3 o3; obtain ⟨y0, y1, y2, y3, y4, y5, y6, y7, y8, y9⟩ := blk10 B3; obtain ⟨z0, z1, z2, z3, z4, z5, z6, z7, z8, z9⟩ := frz10 B3; obtain ⟨u0, u1, u2, u3, u4, u5, u6, u7, u8, u9⟩ := frz10 C3; obtain ⟨t0, t1, t2, t3, t4, t5, t6, t7, t8, t9⟩ := blk10 C3; clear B3 C3))
  clear y0 y1 y2 y3 y4 y5 y6 y7 y8 y9 z0 z1 z2 z3 z4 z5 z6 z7 z8 z9 u0 u1 u2 u3 u4 u5 u6 u7 u8 u9 t0 t1 t2 t3 t4 t5 t6 t7 t8 t9
  have C4 : Blk (W3.setCell ⟨w.heap.size, 4, none⟩ (.slice A3 (abouts.length + 1) c3)) (w.heap.size + 1) 33 #[.int .i64 0, .int .u32 0, .int .u32 0, .slice none 0 0, .slice none 0 0, .slice none 0 0, .int .u64 0, .int .i64 0, .int .i64 0, .slice none 0 0] := (Below.heap_setCell _ _ _ _ (by simp)).trans C3'.out
  have F4 := set10_blk (W := (W3.setCell ⟨w.heap.size, 4, none⟩ (.slice A3 (abouts.length + 1) c3))) (R := w.heap.size + 1) (v0 := .int .i64 kind) (v1 := .int .u32 (src : Int)) (v2 := .int .u32 (about : Int)) (v3 := .slice At tups.length ct) (v4 := .slice A3 (abouts.length + 1) c3) (v5 := .slice An nums.length cn) (v6 := .int .u64 (rate : Int)) (v7 := .int .i64 ty) (v8 := .int .i64 count) (v9 := .slice Ab body.length cb) C4
  have bF : Below w.heap.size w (set10 (W3.setCell ⟨w.heap.size, 4, none⟩ (.slice A3 (abouts.length + 1) c3)) (w.heap.size + 1) (.int .i64 kind) (.int .u32 (src : Int)) (.int .u32 (about : Int)) (.slice At tups.length ct) (.slice A3 (abouts.length + 1) c3) (.slice An nums.length cn) (.int .u64 (rate : Int)) (.int .i64 ty) (.int .i64 count) (.slice Ab body.length cb)) := (Below.setCell b3 (p := ⟨w.heap.size, 4, none⟩) (Nat.le_refl _) _).trans (set10_below (by omega))
  have r4 := (R3.out.but (but_setCell W3 w.heap.size 4 (.slice A3 (abouts.length + 1) c3)) (fun ad e => by have := A3'.out ad e; omega)).but (but_set10 (W3.setCell ⟨w.heap.size, 4, none⟩ (.slice A3 (abouts.length + 1) c3)) (w.heap.size + 1) (.int .i64 kind) (.int .u32 (src : Int)) (.int .u32 (about : Int)) (.slice At tups.length ct) (.slice A3 (abouts.length + 1) c3) (.slice An nums.length cn) (.int .u64 (rate : Int)) (.int .i64 ty) (.int .i64 count) (.slice Ab body.length cb)) (fun ad e => by have := A3'.out ad e; omega)
  change bodyPost _ _ _ _ _ (set10 (W3.setCell ⟨w.heap.size, 4, none⟩ (.slice A3 (abouts.length + 1) c3)) (w.heap.size + 1) (.int .i64 kind) (.int .u32 (src : Int)) (.int .u32 (about : Int)) (.slice At tups.length ct) (.slice A3 (abouts.length + 1) c3) (.slice An nums.length cn) (.int .u64 (rate : Int)) (.int .i64 ty) (.int .i64 count) (.slice Ab body.length cb))
  generalize set10 (W3.setCell ⟨w.heap.size, 4, none⟩ (.slice A3 (abouts.length + 1) c3)) (w.heap.size + 1) (.int .i64 kind) (.int .u32 (src : Int)) (.int .u32 (about : Int)) (.slice At tups.length ct) (.slice A3 (abouts.length + 1) c3) (.slice An nums.length cn) (.int .u64 (rate : Int)) (.int .i64 ty) (.int .i64 count) (.slice Ab body.length cb) = WF at *
  obtain ⟨k0, k1, k2, k3, k4, k5, k6, k7, k8, k9⟩ := blk10 F4
  refine bodyPost_ret (by simp [results, Try.results12, go_sem, k0, k1, k2, k3, k4, k5, k6, k7, k8, k9]; try rfl) rfl ?_
  have hx := HX.out.on bF
  have hal := HALL.out
  exact ⟨⟨⟨kind, src, about, tups, abouts ++ [z], nums, rate, ty, count, body⟩, At, ct, A3, c3, An, cn, Ab, cb⟩, by simp [Rv.val, Rv.cells], rfl, ⟨hx.tups, r4, hx.nums, hx.body, { hx.kinds with abouts := by simp only [List.length_append, List.length_cons, List.length_nil]; omega }⟩, bF⟩
end Go.Proofs.Ytnchgmemajmkjaa
namespace Go.Proofs.Ytnchgmemajmkjaa
open Go.RowKit
set_option linter.unusedVariables false
set_option linter.unusedSimpArgs false
set_option maxRecDepth 20000

theorem ownI_none (w : World) (base : Nat) (hb : base ≤ w.heap.size) : OwnI (w.alloc (.cells #[] 3)) base (.slice (some ⟨w.heap.size, 0, none⟩) 0 0) [] :=
  ⟨rfl, .inr ⟨w.heap.size, 0, #[], rfl, hb, Blk.new _ _ _, Nat.le_refl _, by decide, rfl, rfl⟩⟩
theorem ownI_at {w : World} {b : Nat} {v : Value} {l : List Int} (h : OwnI w b v l) : ∀ k, v.ownBlock = some k → b ≤ k := by
  intro k hk
  rcases h.2 with ⟨hv, _⟩ | ⟨g, cap, cur, hv, hb, _⟩
  · subst hv
    simp [Value.ownBlock] at hk
  · subst hv
    simp [Value.ownBlock] at hk
    omega
theorem ownI_alloc {w : World} {b : Nat} {v : Value} {l : List Int} (h : OwnI w b v l) (o : Obj) : OwnI (w.alloc o) b v l := World.ownsRow.alloc h o
theorem ownI_row {w : World} {b : Nat} {v : Value} {l : List Int} (h : OwnI w b v l) (hl : ∀ x ∈ l, I64 x) : ∃ A c, v = .slice A l.length c ∧ RN w w.heap.size A l.length c l ∧ ∀ ad, A = some ad → b ≤ ad.block := by
  obtain ⟨A, c, e, r⟩ := h.rn hl
  exact ⟨A, c, e, r, fun ad ha => ownI_at h ad.block (by subst ha; rw [e]; rfl)⟩
theorem RN.but' {w w' : World} {A : Option Addr} {n c R : Nat} {l : List Int} (h : RN w w.heap.size A n c l) (hb : But R w w') (hA : ∀ ad, A = some ad → ad.block ≠ R) : RN w' w'.heap.size A n c l :=
  ⟨h.1, h.2.1, h.2.2.but hb hA⟩
theorem odd_stepI {w V W2 : World} {x z : Array Value} {v v2 : Value} {l : List Int} (bV : Below w.heap.size w V) (B1 : Blk V w.heap.size 33 x) (C1 : Blk V (w.heap.size + 1) 33 z)
    (o2 : OwnI W2 (w.heap.size + 2) v2 l) (g2 : V.grownBy W2 v.ownBlock) (hs : w.heap.size + 2 ≤ V.heap.size) (hv : ∀ k, v.ownBlock = some k → w.heap.size + 2 ≤ k) :
    OwnI W2 (w.heap.size + 2) v2 l ∧ Below w.heap.size w W2 ∧ Blk W2 w.heap.size 33 x ∧ Blk W2 (w.heap.size + 1) 33 z ∧ w.heap.size + 2 ≤ W2.heap.size :=
  ⟨o2, below_grown bV (by omega) g2 (fun k hk => by have := hv k hk; omega), blk_grown B1 g2 (fun e => by have := hv _ e; omega), blk_grown C1 g2 (fun e => by have := hv _ e; omega), Nat.le_trans hs g2.size⟩
set_option maxHeartbeats 1000000 in
theorem odd_7 (x : Rv) (what n : Int) (w : World) (hx : IsR w w.heap.size x) (hn : I64 n) (hal : x.r.nums.length ≤ 900000) (hwi : ∀ W, Calls Try.prog 16 #[.int .i64 what, .int .i64 0, .int .i64 10] W fun e w' => e = .returned (.int .i64 7) ∧ w' = W) :
    Calls Try.prog 12 #[x.val, .int .i64 what, .int .i64 n] w (OddOut w { x.r with nums := x.r.nums ++ [n] }) := by
  obtain ⟨⟨kind, src, about, tups, abouts, nums, rate, ty, count, body⟩, At, ct, Aa, ca, An, cn, Ab, cb⟩ := x
  simp only [Rv.val, Rv.cells]
  have h2 := hx.nums
  simp only at h2 hal
  have HX := Lib.hid hx
  have H2 := Lib.hid h2
  have HALZ := Lib.hid (show ∀ q ∈ nums ++ [n], I64 q from fun q hq => by
    rcases List.mem_append.1 hq with hq | hq
    · exact h2.2.1 q hq
    · rw [List.mem_singleton.1 hq]
      exact hn)
  clear hx h2
  go_enter Try.func12, Try.ntmps12
  go_wp2_with fail
  ((with_reducible refine (hwi _).mono ?_); rintro e w1 ⟨rfl, rfl⟩)
  clear hwi
  go_upto_region 18 with (fail)
  have hs1 : (w.alloc (.cells #[.int .i64 kind, .int .u32 (src : Int), .int .u32 (about : Int), .slice At tups.length ct, .slice Aa abouts.length ca, .slice An nums.length cn, .int .u64 (rate : Int), .int .i64 ty, .int .i64 count, .slice Ab body.length cb] 33)).heap.size = w.heap.size + 1 := by simp
  have bW := ((Below.refl w.heap.size w).alloc (Nat.le_refl _) (.cells #[.int .i64 kind, .int .u32 (src : Int), .int .u32 (about : Int), .slice At tups.length ct, .slice Aa abouts.length ca, .slice An nums.length cn, .int .u64 (rate : Int), .int .i64 ty, .int .i64 count, .slice Ab body.length cb] 33)).alloc (by rw [hs1]; omega) (.cells #[.int .i64 0, .int .u32 0, .int .u32 0, .slice none 0 0, .slice none 0 0, .slice none 0 0, .int .u64 0, .int .i64 0, .int .i64 0, .slice none 0 0] 33)
  have B0 : Blk ((w.alloc (.cells #[.int .i64 kind, .int .u32 (src : Int), .int .u32 (about : Int), .slice At tups.length ct, .slice Aa abouts.length ca, .slice An nums.length cn, .int .u64 (rate : Int), .int .i64 ty, .int .i64 count, .slice Ab body.length cb] 33)).alloc (.cells #[.int .i64 0, .int .u32 0, .int .u32 0, .slice none 0 0, .slice none 0 0, .slice none 0 0, .int .u64 0, .int .i64 0, .int .i64 0, .slice none 0 0] 33)) w.heap.size 33 #[.int .i64 kind, .int .u32 (src : Int), .int .u32 (about : Int), .slice At tups.length ct, .slice Aa abouts.length ca, .slice An nums.length cn, .int .u64 (rate : Int), .int .i64 ty, .int .i64 count, .slice Ab body.length cb] := Blk.alloc (Blk.new _ _ _) _
  have C0 : Blk ((w.alloc (.cells #[.int .i64 kind, .int .u32 (src : Int), .int .u32 (about : Int), .slice At tups.length ct, .slice Aa abouts.length ca, .slice An nums.length cn, .int .u64 (rate : Int), .int .i64 ty, .int .i64 count, .slice Ab body.length cb] 33)).alloc (.cells #[.int .i64 0, .int .u32 0, .int .u32 0, .slice none 0 0, .slice none 0 0, .slice none 0 0, .int .u64 0, .int .i64 0, .int .i64 0, .slice none 0 0] 33)) (w.heap.size + 1) 33 #[.int .i64 0, .int .u32 0, .int .u32 0, .slice none 0 0, .slice none 0 0, .slice none 0 0, .int .u64 0, .int .i64 0, .int .i64 0, .slice none 0 0] := by
    have h := Blk.new (w.alloc (.cells #[.int .i64 kind, .int .u32 (src : Int), .int .u32 (about : Int), .slice At tups.length ct, .slice Aa abouts.length ca, .slice An nums.length cn, .int .u64 (rate : Int), .int .i64 ty, .int .i64 count, .slice Ab body.length cb] 33)) 33 #[.int .i64 0, .int .u32 0, .int .u32 0, .slice none 0 0, .slice none 0 0, .slice none 0 0, .int .u64 0, .int .i64 0, .int .i64 0, .slice none 0 0]
    rwa [hs1] at h
  have hsz : w.heap.size + 2 ≤ ((w.alloc (.cells #[.int .i64 kind, .int .u32 (src : Int), .int .u32 (about : Int), .slice At tups.length ct, .slice Aa abouts.length ca, .slice An nums.length cn, .int .u64 (rate : Int), .int .i64 ty, .int .i64 count, .slice Ab body.length cb] 33)).alloc (.cells #[.int .i64 0, .int .u32 0, .int .u32 0, .slice none 0 0, .slice none 0 0, .slice none 0 0, .int .u64 0, .int .i64 0, .int .i64 0, .slice none 0 0] 33)).heap.size := by simp
  clear hs1
  generalize (w.alloc (.cells #[.int .i64 kind, .int .u32 (src : Int), .int .u32 (about : Int), .slice At tups.length ct, .slice Aa abouts.length ca, .slice An nums.length cn, .int .u64 (rate : Int), .int .i64 ty, .int .i64 count, .slice Ab body.length cb] 33)).alloc (.cells #[.int .i64 0, .int .u32 0, .int .u32 0, .slice none 0 0, .slice none 0 0, .slice none 0 0, .int .u64 0, .int .i64 0, .int .i64 0, .slice none 0 0] 33) = V at *
  have hr := H2.out.on (bW.alloc (by omega) (.cells #[] 3))
  have ho := ownI_none V (w.heap.size + 2) hsz
  have hbs : w.heap.size + 2 ≤ (V.alloc (.cells #[] 3)).heap.size := by have := (Below.refl V.heap.size V).alloc (Nat.le_refl _) (.cells #[] 3) |>.size; omega
  have bV := bW.alloc (by omega) (.cells #[] 3)
  have B1 := Blk.alloc B0 (.cells #[] 3)
  have C1 := Blk.alloc C0 (.cells #[] 3)
  have y5 : V.cell? ⟨w.heap.size, 5, none⟩ = some (.slice An nums.length cn) := (B0.cell 5).trans rfl
  have hv0 : w.heap.size < V.heap.size := by omega
  have HR := Lib.hid hr
  have HO := Lib.hid ho
  have HBS := Lib.hid hbs
  have HAL := Lib.hid (show ([] : List Int).length + nums.length ≤ 1000000 by simp; omega)
  have HALL := Lib.hid hal
  have HSZ := Lib.hid hsz
  have hne : V.heap.size ≠ w.heap.size := by omega
  have hne1 : V.heap.size ≠ w.heap.size + 1 := by omega
  have HNE := Lib.hid hne
  have HNE1 := Lib.hid hne1
  clear hr ho hbs B0 C0 hsz hal hne hne1 bW
  go_wp2_with (at_builtin; first
    | ((with_reducible refine wpList_appendI rfl (.tmp 73) (.tmp 75) rfl rfl (w.heap.size + 2) _ _ (by with_unfolding_all rfl) HO.out _ An nums.length cn nums (by with_unfolding_all rfl) HR.out HAL.out HBS.out ?_); intro v2 W2 h2; obtain ⟨o2, g2, _⟩ := h2; have q2 := odd_stepI (bV := bV) (B1 := B1) (C1 := C1) o2 g2 HBS.out (ownI_at HO.out); clear bV B1 C1 o2 g2; obtain ⟨o2, b2, B2, C2, s2⟩ := q2; have HAL2 := Lib.hid (show nums.length + 1 ≤ 1000000 by have := HALL.out; omega); have HBS2 := Lib.hid (fun o => Nat.le_trans s2 ((Below.refl W2.heap.size W2).alloc (Nat.le_refl _) o).size); have o2 : OwnI W2 (w.heap.size + 2) v2 nums := o2)
    | go_loud ((with_reducible refine wpList_appendI rfl (.tmp 76) (.tmp 78) rfl rfl (w.heap.size + 2) _ _ (by with_unfolding_all rfl) (ownI_alloc o2 _) _ _ 1 1 [n] (by with_unfolding_all rfl) (lit_rn n hn W2) HAL2.out (HBS2.out _) ?_); intro v3 W3 h3; obtain ⟨o3, g3, _⟩ := h3; have q3 := odd_stepI (bV := b2.alloc (by omega) _) (B1 := Blk.alloc B2 _) (C1 := Blk.alloc C2 _) o3 g3 (HBS2.out _) (ownI_at o2); clear b2 B2 C2 o2 o3 g3 s2; obtain ⟨o3, b3, B3, C3, s3⟩ := q3; obtain ⟨A3, c3, rfl, r3, a3⟩ := ownI_row o3 HALZ.out; have R3 := Lib.hid r3; have A3' := Lib.hid a3; have B3' := Lib.hid B3; have C3' := Lib.hid C3; clear r3 a3 o3; obtain ⟨y0, y1, y2, y3, y4, y5, y6, y7, y8, y9⟩ := blk10 B3; obtain ⟨z0, z1, z2, z3, z4, z5, z6, z7, z8, z9⟩ := frz10 B3; obtain ⟨u0, u1, u2, u3, u4, u5, u6, u7, u8, u9⟩ := frz10 C3; obtain ⟨t0, t1, t2, t3, t4, t5, t6, t7, t8, t9⟩ := blk10 C3; clear B3 C3))
  clear y0 y1 y2 y3 y4 y5 y6 y7 y8 y9 z0 z1 z2 z3 z4 z5 z6 z7 z8 z9 u0 u1 u2 u3 u4 u5 u6 u7 u8 u9 t0 t1 t2 t3 t4 t5 t6 t7 t8 t9
  have C4 : Blk (W3.setCell ⟨w.heap.size, 5, none⟩ (.slice A3 (nums.length + 1) c3)) (w.heap.size + 1) 33 #[.int .i64 0, .int .u32 0, .int .u32 0, .slice none 0 0, .slice none 0 0, .slice none 0 0, .int .u64 0, .int .i64 0, .int .i64 0, .slice none 0 0] := (Below.heap_setCell _ _ _ _ (by simp)).trans C3'.out
  have F4 := set10_blk (W := (W3.setCell ⟨w.heap.size, 5, none⟩ (.slice A3 (nums.length + 1) c3))) (R := w.heap.size + 1) (v0 := .int .i64 kind) (v1 := .int .u32 (src : Int)) (v2 := .int .u32 (about : Int)) (v3 := .slice At tups.length ct) (v4 := .slice Aa abouts.length ca) (v5 := .slice A3 (nums.length + 1) c3) (v6 := .int .u64 (rate : Int)) (v7 := .int .i64 ty) (v8 := .int .i64 count) (v9 := .slice Ab body.length cb) C4
  have bF : Below w.heap.size w (set10 (W3.setCell ⟨w.heap.size, 5, none⟩ (.slice A3 (nums.length + 1) c3)) (w.heap.size + 1) (.int .i64 kind) (.int .u32 (src : Int)) (.int .u32 (about : Int)) (.slice At tups.length ct) (.slice Aa abouts.length ca) (.slice A3 (nums.length + 1) c3) (.int .u64 (rate : Int)) (.int .i64 ty) (.int .i64 count) (.slice Ab body.length cb)) := (Below.setCell b3 (p := ⟨w.heap.size, 5, none⟩) (Nat.le_refl _) _).trans (set10_below (by omega))
  have r4 := (RN.but' R3.out (but_setCell W3 w.heap.size 5 (.slice A3 (nums.length + 1) c3)) (fun ad e => by have := A3'.out ad e; omega)).but' (but_set10 (W3.setCell ⟨w.heap.size, 5, none⟩ (.slice A3 (nums.length + 1) c3)) (w.heap.size + 1) (.int .i64 kind) (.int .u32 (src : Int)) (.int .u32 (about : Int)) (.slice At tups.length ct) (.slice Aa abouts.length ca) (.slice A3 (nums.length + 1) c3) (.int .u64 (rate : Int)) (.int .i64 ty) (.int .i64 count) (.slice Ab body.length cb)) (fun ad e => by have := A3'.out ad e; omega)
  change bodyPost _ _ _ _ _ (set10 (W3.setCell ⟨w.heap.size, 5, none⟩ (.slice A3 (nums.length + 1) c3)) (w.heap.size + 1) (.int .i64 kind) (.int .u32 (src : Int)) (.int .u32 (about : Int)) (.slice At tups.length ct) (.slice Aa abouts.length ca) (.slice A3 (nums.length + 1) c3) (.int .u64 (rate : Int)) (.int .i64 ty) (.int .i64 count) (.slice Ab body.length cb))
  generalize set10 (W3.setCell ⟨w.heap.size, 5, none⟩ (.slice A3 (nums.length + 1) c3)) (w.heap.size + 1) (.int .i64 kind) (.int .u32 (src : Int)) (.int .u32 (about : Int)) (.slice At tups.length ct) (.slice Aa abouts.length ca) (.slice A3 (nums.length + 1) c3) (.int .u64 (rate : Int)) (.int .i64 ty) (.int .i64 count) (.slice Ab body.length cb) = WF at *
  obtain ⟨k0, k1, k2, k3, k4, k5, k6, k7, k8, k9⟩ := blk10 F4
  refine bodyPost_ret (by simp [results, Try.results12, go_sem, k0, k1, k2, k3, k4, k5, k6, k7, k8, k9]; try rfl) rfl ?_
  have hx := HX.out.on bF
  have hal := HALL.out
  exact ⟨⟨⟨kind, src, about, tups, abouts, nums ++ [n], rate, ty, count, body⟩, At, ct, Aa, ca, A3, c3, Ab, cb⟩, by simp [Rv.val, Rv.cells], rfl, ⟨hx.tups, hx.abouts, r4, hx.body, { hx.kinds with nums := by simp only [List.length_append, List.length_cons, List.length_nil]; omega }⟩, bF⟩
end Go.Proofs.Ytnchgmemajmkjaa
namespace Go.Proofs.Ytnchgmemajmkjaa
open Go.RowKit
set_option linter.unusedVariables false
set_option linter.unusedSimpArgs false
set_option maxRecDepth 20000

theorem ownT_none (w : World) (base : Nat) (hb : base ≤ w.heap.size) : OwnT (w.alloc (.cells #[] 57)) base (.slice (some ⟨w.heap.size, 0, none⟩) 0 0) [] :=
  ⟨rfl, .inr ⟨w.heap.size, 0, #[], rfl, hb, Blk.new _ _ _, Nat.le_refl _, by decide, rfl, rfl⟩⟩
theorem ownT_at {w : World} {b : Nat} {v : Value} {l : List Tup} (h : OwnT w b v l) : ∀ k, v.ownBlock = some k → b ≤ k := by
  intro k hk
  rcases h.2 with ⟨hv, _⟩ | ⟨g, cap, cur, hv, hb, _⟩
  · subst hv
    simp [Value.ownBlock] at hk
  · subst hv
    simp [Value.ownBlock] at hk
    omega
theorem ownT_alloc {w : World} {b : Nat} {v : Value} {l : List Tup} (h : OwnT w b v l) (o : Obj) : OwnT (w.alloc o) b v l := World.ownsRow.alloc h o
theorem ownT_row {w : World} {b : Nat} {v : Value} {l : List Tup} (h : OwnT w b v l) (hl : ∀ x ∈ l, x.In) : ∃ A c, v = .slice A l.length c ∧ RT w w.heap.size A l.length c l ∧ ∀ ad, A = some ad → b ≤ ad.block := by
  obtain ⟨A, c, e, r⟩ := h.rt hl
  exact ⟨A, c, e, r, fun ad ha => ownT_at h ad.block (by subst ha; rw [e]; rfl)⟩
theorem RT.but' {w w' : World} {A : Option Addr} {n c R : Nat} {l : List Tup} (h : RT w w.heap.size A n c l) (hb : But R w w') (hA : ∀ ad, A = some ad → ad.block ≠ R) : RT w' w'.heap.size A n c l :=
  ⟨h.1, h.2.1, h.2.2.but hb hA⟩
theorem odd_stepT {w V W2 : World} {x z : Array Value} {v v2 : Value} {l : List Tup} (bV : Below w.heap.size w V) (B1 : Blk V w.heap.size 33 x) (C1 : Blk V (w.heap.size + 1) 33 z)
    (o2 : OwnT W2 (w.heap.size + 2) v2 l) (g2 : V.grownBy W2 v.ownBlock) (hs : w.heap.size + 2 ≤ V.heap.size) (hv : ∀ k, v.ownBlock = some k → w.heap.size + 2 ≤ k) :
    OwnT W2 (w.heap.size + 2) v2 l ∧ Below w.heap.size w W2 ∧ Blk W2 w.heap.size 33 x ∧ Blk W2 (w.heap.size + 1) 33 z ∧ w.heap.size + 2 ≤ W2.heap.size :=
  ⟨o2, below_grown bV (by omega) g2 (fun k hk => by have := hv k hk; omega), blk_grown B1 g2 (fun e => by have := hv _ e; omega), blk_grown C1 g2 (fun e => by have := hv _ e; omega), Nat.le_trans hs g2.size⟩
set_option maxHeartbeats 1000000 in
theorem odd_4 (x : Rv) (what n : Int) (w : World) (hx : IsR w w.heap.size x) (hn : I64 n) (hal : x.r.tups.length ≤ 900000) (hwi : ∀ W, Calls Try.prog 16 #[.int .i64 what, .int .i64 0, .int .i64 10] W fun e w' => e = .returned (.int .i64 4) ∧ w' = W) :
    Calls Try.prog 12 #[x.val, .int .i64 what, .int .i64 n] w (OddOut w { x.r with tups := x.r.tups ++ [⟨0, (n % 18446744073709551616).toNat, 7⟩] }) := by
  obtain ⟨⟨kind, src, about, tups, abouts, nums, rate, ty, count, body⟩, At, ct, Aa, ca, An, cn, Ab, cb⟩ := x
  simp only [Rv.val, Rv.cells]
  have hz : IntKind.u64.wrap n = (((n % 18446744073709551616).toNat : Nat) : Int) := by rw [IntKind.wrap_u64]; omega
  have hzl : (n % 18446744073709551616).toNat < 18446744073709551616 := by omega
  generalize (n % 18446744073709551616).toNat = z at *
  have hin : Tup.In ⟨0, z, 7⟩ := ⟨show (0 : Nat) < 4294967296 by decide, hzl, show I64 7 by unfold I64; omega⟩
  have h2 := hx.tups
  simp only at h2 hal
  have HX := Lib.hid hx
  have H2 := Lib.hid h2
  have HALZ := Lib.hid (show ∀ q ∈ tups ++ [⟨0, z, 7⟩], q.In from fun q hq => by
    rcases List.mem_append.1 hq with hq | hq
    · exact h2.2.1 q hq
    · rw [List.mem_singleton.1 hq]
      exact hin)
  clear hx h2
  go_enter Try.func12, Try.ntmps12
  go_wp2_with fail
  ((with_reducible refine (hwi _).mono ?_); rintro e w1 ⟨rfl, rfl⟩)
  clear hwi
  go_upto_region 12 with (fail)
  have hs1 : (w.alloc (.cells #[.int .i64 kind, .int .u32 (src : Int), .int .u32 (about : Int), .slice At tups.length ct, .slice Aa abouts.length ca, .slice An nums.length cn, .int .u64 (rate : Int), .int .i64 ty, .int .i64 count, .slice Ab body.length cb] 33)).heap.size = w.heap.size + 1 := by simp
  have bW := ((Below.refl w.heap.size w).alloc (Nat.le_refl _) (.cells #[.int .i64 kind, .int .u32 (src : Int), .int .u32 (about : Int), .slice At tups.length ct, .slice Aa abouts.length ca, .slice An nums.length cn, .int .u64 (rate : Int), .int .i64 ty, .int .i64 count, .slice Ab body.length cb] 33)).alloc (by rw [hs1]; omega) (.cells #[.int .i64 0, .int .u32 0, .int .u32 0, .slice none 0 0, .slice none 0 0, .slice none 0 0, .int .u64 0, .int .i64 0, .int .i64 0, .slice none 0 0] 33)
  have B0 : Blk ((w.alloc (.cells #[.int .i64 kind, .int .u32 (src : Int), .int .u32 (about : Int), .slice At tups.length ct, .slice Aa abouts.length ca, .slice An nums.length cn, .int .u64 (rate : Int), .int .i64 ty, .int .i64 count, .slice Ab body.length cb] 33)).alloc (.cells #[.int .i64 0, .int .u32 0, .int .u32 0, .slice none 0 0, .slice none 0 0, .slice none 0 0, .int .u64 0, .int .i64 0, .int .i64 0, .slice none 0 0] 33)) w.heap.size 33 #[.int .i64 kind, .int .u32 (src : Int), .int .u32 (about : Int), .slice At tups.length ct, .slice Aa abouts.length ca, .slice An nums.length cn, .int .u64 (rate : Int), .int .i64 ty, .int .i64 count, .slice Ab body.length cb] := Blk.alloc (Blk.new _ _ _) _
  have C0 : Blk ((w.alloc (.cells #[.int .i64 kind, .int .u32 (src : Int), .int .u32 (about : Int), .slice At tups.length ct, .slice Aa abouts.length ca, .slice An nums.length cn, .int .u64 (rate : Int), .int .i64 ty, .int .i64 count, .slice Ab body.length cb] 33)).alloc (.cells #[.int .i64 0, .int .u32 0, .int .u32 0, .slice none 0 0, .slice none 0 0, .slice none 0 0, .int .u64 0, .int .i64 0, .int .i64 0, .slice none 0 0] 33)) (w.heap.size + 1) 33 #[.int .i64 0, .int .u32 0, .int .u32 0, .slice none 0 0, .slice none 0 0, .slice none 0 0, .int .u64 0, .int .i64 0, .int .i64 0, .slice none 0 0] := by
    have h := Blk.new (w.alloc (.cells #[.int .i64 kind, .int .u32 (src : Int), .int .u32 (about : Int), .slice At tups.length ct, .slice Aa abouts.length ca, .slice An nums.length cn, .int .u64 (rate : Int), .int .i64 ty, .int .i64 count, .slice Ab body.length cb] 33)) 33 #[.int .i64 0, .int .u32 0, .int .u32 0, .slice none 0 0, .slice none 0 0, .slice none 0 0, .int .u64 0, .int .i64 0, .int .i64 0, .slice none 0 0]
    rwa [hs1] at h
  have hsz : w.heap.size + 2 ≤ ((w.alloc (.cells #[.int .i64 kind, .int .u32 (src : Int), .int .u32 (about : Int), .slice At tups.length ct, .slice Aa abouts.length ca, .slice An nums.length cn, .int .u64 (rate : Int), .int .i64 ty, .int .i64 count, .slice Ab body.length cb] 33)).alloc (.cells #[.int .i64 0, .int .u32 0, .int .u32 0, .slice none 0 0, .slice none 0 0, .slice none 0 0, .int .u64 0, .int .i64 0, .int .i64 0, .slice none 0 0] 33)).heap.size := by simp
  clear hs1
  generalize (w.alloc (.cells #[.int .i64 kind, .int .u32 (src : Int), .int .u32 (about : Int), .slice At tups.length ct, .slice Aa abouts.length ca, .slice An nums.length cn, .int .u64 (rate : Int), .int .i64 ty, .int .i64 count, .slice Ab body.length cb] 33)).alloc (.cells #[.int .i64 0, .int .u32 0, .int .u32 0, .slice none 0 0, .slice none 0 0, .slice none 0 0, .int .u64 0, .int .i64 0, .int .i64 0, .slice none 0 0] 33) = V at *
  have hr := H2.out.on (bW.alloc (by omega) (.cells #[] 57))
  have ho := ownT_none V (w.heap.size + 2) hsz
  have hbs : w.heap.size + 2 ≤ (V.alloc (.cells #[] 57)).heap.size := by have := (Below.refl V.heap.size V).alloc (Nat.le_refl _) (.cells #[] 57) |>.size; omega
  have bV := bW.alloc (by omega) (.cells #[] 57)
  have B1 := Blk.alloc B0 (.cells #[] 57)
  have C1 := Blk.alloc C0 (.cells #[] 57)
  have y3 : V.cell? ⟨w.heap.size, 3, none⟩ = some (.slice At tups.length ct) := (B0.cell 3).trans rfl
  have hv0 : w.heap.size < V.heap.size := by omega
  have HR := Lib.hid hr
  have HO := Lib.hid ho
  have HBS := Lib.hid hbs
  have HAL := Lib.hid (show ([] : List Tup).length + tups.length ≤ 1000000 by simp; omega)
  have HALL := Lib.hid hal
  have HSZ := Lib.hid hsz
  have hne : V.heap.size ≠ w.heap.size := by omega
  have hne1 : V.heap.size ≠ w.heap.size + 1 := by omega
  have HNE := Lib.hid hne
  have HNE1 := Lib.hid hne1
  clear hr ho hbs B0 C0 hsz hal hne hne1 bW
  go_wp2_with (at_builtin; first
    | ((with_reducible refine wpList_appendT rfl (.tmp 39) (.tmp 41) rfl rfl (w.heap.size + 2) _ _ (by with_unfolding_all rfl) HO.out _ At tups.length ct tups (by with_unfolding_all rfl) HR.out HAL.out HBS.out ?_); intro v2 W2 h2; obtain ⟨o2, g2⟩ := h2; have q2 := odd_stepT (bV := bV) (B1 := B1) (C1 := C1) o2 g2 HBS.out (ownT_at HO.out); clear bV B1 C1 o2 g2; obtain ⟨o2, b2, B2, C2, s2⟩ := q2; have HAL2 := Lib.hid (show tups.length + 1 ≤ 1000000 by have := HALL.out; omega); have HBS2 := Lib.hid (fun o => Nat.le_trans s2 ((Below.refl W2.heap.size W2).alloc (Nat.le_refl _) o).size); have o2 : OwnT W2 (w.heap.size + 2) v2 tups := o2)
    | go_loud ((with_reducible refine wpList_appendT rfl (.tmp 42) (.tmp 46) rfl rfl (w.heap.size + 2) _ _ (by with_unfolding_all rfl) (ownT_alloc o2 _) _ _ 1 1 [⟨0, z, 7⟩] (by with_unfolding_all rfl) (lit_rt (⟨0, z, 7⟩) hin W2 _ rfl) HAL2.out (HBS2.out _) ?_); intro v3 W3 h3; obtain ⟨o3, g3⟩ := h3; have q3 := odd_stepT (bV := b2.alloc (by omega) _) (B1 := Blk.alloc B2 _) (C1 := Blk.alloc C2 _) o3 g3 (HBS2.out _) (ownT_at o2); clear b2 B2 C2 o2 o3 g3 s2; obtain ⟨o3, b3, B3, C3, s3⟩ := q3; obtain ⟨A3, c3, rfl, r3, a3⟩ := ownT_row o3 HALZ.out; have R3 := Lib.hid r3; have A3' := Lib.hid a3; have B3' := Lib.hid B3; have C3' := Lib.hid C3; clear r3 a3 o3; obtain ⟨y0, y1, y2, y3, y4, y5, y6, y7, y8, y9⟩ := blk10 B3; obtain ⟨z0, z1, z2, z3, z4, z5, z6, z7, z8, z9⟩ := frz10 B3; obtain ⟨u0, u1, u2, u3, u4, u5, u6, u7, u8, u9⟩ := frz10 C3; obtain ⟨t0, t1, t2, t3, t4, t5, t6, t7, t8, t9⟩ := blk10 C3; clear B3 C3))
  clear y0 y1 y2 y3 y4 y5 y6 y7 y8 y9 z0 z1 z2 z3 z4 z5 z6 z7 z8 z9 u0 u1 u2 u3 u4 u5 u6 u7 u8 u9 t0 t1 t2 t3 t4 t5 t6 t7 t8 t9
  have C4 : Blk (W3.setCell ⟨w.heap.size, 3, none⟩ (.slice A3 (tups.length + 1) c3)) (w.heap.size + 1) 33 #[.int .i64 0, .int .u32 0, .int .u32 0, .slice none 0 0, .slice none 0 0, .slice none 0 0, .int .u64 0, .int .i64 0, .int .i64 0, .slice none 0 0] := (Below.heap_setCell _ _ _ _ (by simp)).trans C3'.out
  have F4 := set10_blk (W := (W3.setCell ⟨w.heap.size, 3, none⟩ (.slice A3 (tups.length + 1) c3))) (R := w.heap.size + 1) (v0 := .int .i64 kind) (v1 := .int .u32 (src : Int)) (v2 := .int .u32 (about : Int)) (v3 := .slice A3 (tups.length + 1) c3) (v4 := .slice Aa abouts.length ca) (v5 := .slice An nums.length cn) (v6 := .int .u64 (rate : Int)) (v7 := .int .i64 ty) (v8 := .int .i64 count) (v9 := .slice Ab body.length cb) C4
  have bF : Below w.heap.size w (set10 (W3.setCell ⟨w.heap.size, 3, none⟩ (.slice A3 (tups.length + 1) c3)) (w.heap.size + 1) (.int .i64 kind) (.int .u32 (src : Int)) (.int .u32 (about : Int)) (.slice A3 (tups.length + 1) c3) (.slice Aa abouts.length ca) (.slice An nums.length cn) (.int .u64 (rate : Int)) (.int .i64 ty) (.int .i64 count) (.slice Ab body.length cb)) := (Below.setCell b3 (p := ⟨w.heap.size, 3, none⟩) (Nat.le_refl _) _).trans (set10_below (by omega))
  have r4 := (RT.but' R3.out (but_setCell W3 w.heap.size 3 (.slice A3 (tups.length + 1) c3)) (fun ad e => by have := A3'.out ad e; omega)).but' (but_set10 (W3.setCell ⟨w.heap.size, 3, none⟩ (.slice A3 (tups.length + 1) c3)) (w.heap.size + 1) (.int .i64 kind) (.int .u32 (src : Int)) (.int .u32 (about : Int)) (.slice A3 (tups.length + 1) c3) (.slice Aa abouts.length ca) (.slice An nums.length cn) (.int .u64 (rate : Int)) (.int .i64 ty) (.int .i64 count) (.slice Ab body.length cb)) (fun ad e => by have := A3'.out ad e; omega)
  change bodyPost _ _ _ _ _ (set10 (W3.setCell ⟨w.heap.size, 3, none⟩ (.slice A3 (tups.length + 1) c3)) (w.heap.size + 1) (.int .i64 kind) (.int .u32 (src : Int)) (.int .u32 (about : Int)) (.slice A3 (tups.length + 1) c3) (.slice Aa abouts.length ca) (.slice An nums.length cn) (.int .u64 (rate : Int)) (.int .i64 ty) (.int .i64 count) (.slice Ab body.length cb))
  generalize set10 (W3.setCell ⟨w.heap.size, 3, none⟩ (.slice A3 (tups.length + 1) c3)) (w.heap.size + 1) (.int .i64 kind) (.int .u32 (src : Int)) (.int .u32 (about : Int)) (.slice A3 (tups.length + 1) c3) (.slice Aa abouts.length ca) (.slice An nums.length cn) (.int .u64 (rate : Int)) (.int .i64 ty) (.int .i64 count) (.slice Ab body.length cb) = WF at *
  obtain ⟨k0, k1, k2, k3, k4, k5, k6, k7, k8, k9⟩ := blk10 F4
  refine bodyPost_ret (by simp [results, Try.results12, go_sem, k0, k1, k2, k3, k4, k5, k6, k7, k8, k9]; try rfl) rfl ?_
  have hx := HX.out.on bF
  have hal := HALL.out
  exact ⟨⟨⟨kind, src, about, tups ++ [⟨0, z, 7⟩], abouts, nums, rate, ty, count, body⟩, A3, c3, Aa, ca, An, cn, Ab, cb⟩, by simp [Rv.val, Rv.cells], rfl, ⟨r4, hx.abouts, hx.nums, hx.body, { hx.kinds with tups := by simp only [List.length_append, List.length_cons, List.length_nil]; omega }⟩, bF⟩
set_option maxHeartbeats 1000000 in
theorem odd_5 (x : Rv) (what n : Int) (w : World) (hx : IsR w w.heap.size x) (hn : I64 n) (hal : x.r.tups.length ≤ 900000) (hwi : ∀ W, Calls Try.prog 16 #[.int .i64 what, .int .i64 0, .int .i64 10] W fun e w' => e = .returned (.int .i64 5) ∧ w' = W) :
    Calls Try.prog 12 #[x.val, .int .i64 what, .int .i64 n] w (OddOut w { x.r with tups := x.r.tups ++ [⟨0, 0, n⟩] }) := by
  obtain ⟨⟨kind, src, about, tups, abouts, nums, rate, ty, count, body⟩, At, ct, Aa, ca, An, cn, Ab, cb⟩ := x
  simp only [Rv.val, Rv.cells]
  have hin : Tup.In ⟨0, 0, n⟩ := ⟨show (0 : Nat) < 4294967296 by decide, show (0 : Nat) < 18446744073709551616 by decide, hn⟩
  have h2 := hx.tups
  simp only at h2 hal
  have HX := Lib.hid hx
  have H2 := Lib.hid h2
  have HALZ := Lib.hid (show ∀ q ∈ tups ++ [⟨0, 0, n⟩], q.In from fun q hq => by
    rcases List.mem_append.1 hq with hq | hq
    · exact h2.2.1 q hq
    · rw [List.mem_singleton.1 hq]
      exact hin)
  clear hx h2
  go_enter Try.func12, Try.ntmps12
  go_wp2_with fail
  ((with_reducible refine (hwi _).mono ?_); rintro e w1 ⟨rfl, rfl⟩)
  clear hwi
  go_upto_region 14 with (fail)
  have hs1 : (w.alloc (.cells #[.int .i64 kind, .int .u32 (src : Int), .int .u32 (about : Int), .slice At tups.length ct, .slice Aa abouts.length ca, .slice An nums.length cn, .int .u64 (rate : Int), .int .i64 ty, .int .i64 count, .slice Ab body.length cb] 33)).heap.size = w.heap.size + 1 := by simp
  have bW := ((Below.refl w.heap.size w).alloc (Nat.le_refl _) (.cells #[.int .i64 kind, .int .u32 (src : Int), .int .u32 (about : Int), .slice At tups.length ct, .slice Aa abouts.length ca, .slice An nums.length cn, .int .u64 (rate : Int), .int .i64 ty, .int .i64 count, .slice Ab body.length cb] 33)).alloc (by rw [hs1]; omega) (.cells #[.int .i64 0, .int .u32 0, .int .u32 0, .slice none 0 0, .slice none 0 0, .slice none 0 0, .int .u64 0, .int .i64 0, .int .i64 0, .slice none 0 0] 33)
  have B0 : Blk ((w.alloc (.cells #[.int .i64 kind, .int .u32 (src : Int), .int .u32 (about : Int), .slice At tups.length ct, .slice Aa abouts.length ca, .slice An nums.length cn, .int .u64 (rate : Int), .int .i64 ty, .int .i64 count, .slice Ab body.length cb] 33)).alloc (.cells #[.int .i64 0, .int .u32 0, .int .u32 0, .slice none 0 0, .slice none 0 0, .slice none 0 0, .int .u64 0, .int .i64 0, .int .i64 0, .slice none 0 0] 33)) w.heap.size 33 #[.int .i64 kind, .int .u32 (src : Int), .int .u32 (about : Int), .slice At tups.length ct, .slice Aa abouts.length ca, .slice An nums.length cn, .int .u64 (rate : Int), .int .i64 ty, .int .i64 count, .slice Ab body.length cb] := Blk.alloc (Blk.new _ _ _) _
  have C0 : Blk ((w.alloc (.cells #[.int .i64 kind, .int .u32 (src : Int), .int .u32 (about : Int), .slice At tups.length ct, .slice Aa abouts.length ca, .slice An nums.length cn, .int .u64 (rate : Int), .int .i64 ty, .int .i64 count, .slice Ab body.length cb] 33)).alloc (.cells #[.int .i64 0, .int .u32 0, .int .u32 0, .slice none 0 0, .slice none 0 0, .slice none 0 0, .int .u64 0, .int .i64 0, .int .i64 0, .slice none 0 0] 33)) (w.heap.size + 1) 33 #[.int .i64 0, .int .u32 0, .int .u32 0, .slice none 0 0, .slice none 0 0, .slice none 0 0, .int .u64 0, .int .i64 0, .int .i64 0, .slice none 0 0] := by
    have h := Blk.new (w.alloc (.cells #[.int .i64 kind, .int .u32 (src : Int), .int .u32 (about : Int), .slice At tups.length ct, .slice Aa abouts.length ca, .slice An nums.length cn, .int .u64 (rate : Int), .int .i64 ty, .int .i64 count, .slice Ab body.length cb] 33)) 33 #[.int .i64 0, .int .u32 0, .int .u32 0, .slice none 0 0, .slice none 0 0, .slice none 0 0, .int .u64 0, .int .i64 0, .int .i64 0, .slice none 0 0]
    rwa [hs1] at h
  have hsz : w.heap.size + 2 ≤ ((w.alloc (.cells #[.int .i64 kind, .int .u32 (src : Int), .int .u32 (about : Int), .slice At tups.length ct, .slice Aa abouts.length ca, .slice An nums.length cn, .int .u64 (rate : Int), .int .i64 ty, .int .i64 count, .slice Ab body.length cb] 33)).alloc (.cells #[.int .i64 0, .int .u32 0, .int .u32 0, .slice none 0 0, .slice none 0 0, .slice none 0 0, .int .u64 0, .int .i64 0, .int .i64 0, .slice none 0 0] 33)).heap.size := by simp
  clear hs1
  generalize (w.alloc (.cells #[.int .i64 kind, .int .u32 (src : Int), .int .u32 (about : Int), .slice At tups.length ct, .slice Aa abouts.length ca, .slice An nums.length cn, .int .u64 (rate : Int), .int .i64 ty, .int .i64 count, .slice Ab body.length cb] 33)).alloc (.cells #[.int .i64 0, .int .u32 0, .int .u32 0, .slice none 0 0, .slice none 0 0, .slice none 0 0, .int .u64 0, .int .i64 0, .int .i64 0, .slice none 0 0] 33) = V at *
  have hr := H2.out.on (bW.alloc (by omega) (.cells #[] 57))
  have ho := ownT_none V (w.heap.size + 2) hsz
  have hbs : w.heap.size + 2 ≤ (V.alloc (.cells #[] 57)).heap.size := by have := (Below.refl V.heap.size V).alloc (Nat.le_refl _) (.cells #[] 57) |>.size; omega
  have bV := bW.alloc (by omega) (.cells #[] 57)
  have B1 := Blk.alloc B0 (.cells #[] 57)
  have C1 := Blk.alloc C0 (.cells #[] 57)
  have y3 : V.cell? ⟨w.heap.size, 3, none⟩ = some (.slice At tups.length ct) := (B0.cell 3).trans rfl
  have hv0 : w.heap.size < V.heap.size := by omega
  have HR := Lib.hid hr
  have HO := Lib.hid ho
  have HBS := Lib.hid hbs
  have HAL := Lib.hid (show ([] : List Tup).length + tups.length ≤ 1000000 by simp; omega)
  have HALL := Lib.hid hal
  have HSZ := Lib.hid hsz
  have hne : V.heap.size ≠ w.heap.size := by omega
  have hne1 : V.heap.size ≠ w.heap.size + 1 := by omega
  have HNE := Lib.hid hne
  have HNE1 := Lib.hid hne1
  clear hr ho hbs B0 C0 hsz hal hne hne1 bW
  go_wp2_with (at_builtin; first
    | ((with_reducible refine wpList_appendT rfl (.tmp 51) (.tmp 53) rfl rfl (w.heap.size + 2) _ _ (by with_unfolding_all rfl) HO.out _ At tups.length ct tups (by with_unfolding_all rfl) HR.out HAL.out HBS.out ?_); intro v2 W2 h2; obtain ⟨o2, g2⟩ := h2; have q2 := odd_stepT (bV := bV) (B1 := B1) (C1 := C1) o2 g2 HBS.out (ownT_at HO.out); clear bV B1 C1 o2 g2; obtain ⟨o2, b2, B2, C2, s2⟩ := q2; have HAL2 := Lib.hid (show tups.length + 1 ≤ 1000000 by have := HALL.out; omega); have HBS2 := Lib.hid (fun o => Nat.le_trans s2 ((Below.refl W2.heap.size W2).alloc (Nat.le_refl _) o).size); have o2 : OwnT W2 (w.heap.size + 2) v2 tups := o2)
    | go_loud ((with_reducible refine wpList_appendT rfl (.tmp 54) (.tmp 57) rfl rfl (w.heap.size + 2) _ _ (by with_unfolding_all rfl) (ownT_alloc o2 _) _ _ 1 1 [⟨0, 0, n⟩] (by with_unfolding_all rfl) (lit_rt (⟨0, 0, n⟩) hin W2 _ rfl) HAL2.out (HBS2.out _) ?_); intro v3 W3 h3; obtain ⟨o3, g3⟩ := h3; have q3 := odd_stepT (bV := b2.alloc (by omega) _) (B1 := Blk.alloc B2 _) (C1 := Blk.alloc C2 _) o3 g3 (HBS2.out _) (ownT_at o2); clear b2 B2 C2 o2 o3 g3 s2; obtain ⟨o3, b3, B3, C3, s3⟩ := q3; obtain ⟨A3, c3, rfl, r3, a3⟩ := ownT_row o3 HALZ.out; have R3 := Lib.hid r3; have A3' := Lib.hid a3; have B3' := Lib.hid B3; have C3' := Lib.hid C3; clear r3 a3 o3; obtain ⟨y0, y1, y2, y3, y4, y5, y6, y7, y8, y9⟩ := blk10 B3; obtain ⟨z0, z1, z2, z3, z4, z5, z6, z7, z8, z9⟩ := frz10 B3; obtain ⟨u0, u1, u2, u3, u4, u5, u6, u7, u8, u9⟩ := frz10 C3; obtain ⟨t0, t1, t2, t3, t4, t5, t6, t7, t8, t9⟩ := blk10 C3; clear B3 C3))
  clear y0 y1 y2 y3 y4 y5 y6 y7 y8 y9 z0 z1 z2 z3 z4 z5 z6 z7 z8 z9 u0 u1 u2 u3 u4 u5 u6 u7 u8 u9 t0 t1 t2 t3 t4 t5 t6 t7 t8 t9
  have C4 : Blk (W3.setCell ⟨w.heap.size, 3, none⟩ (.slice A3 (tups.length + 1) c3)) (w.heap.size + 1) 33 #[.int .i64 0, .int .u32 0, .int .u32 0, .slice none 0 0, .slice none 0 0, .slice none 0 0, .int .u64 0, .int .i64 0, .int .i64 0, .slice none 0 0] := (Below.heap_setCell _ _ _ _ (by simp)).trans C3'.out
  have F4 := set10_blk (W := (W3.setCell ⟨w.heap.size, 3, none⟩ (.slice A3 (tups.length + 1) c3))) (R := w.heap.size + 1) (v0 := .int .i64 kind) (v1 := .int .u32 (src : Int)) (v2 := .int .u32 (about : Int)) (v3 := .slice A3 (tups.length + 1) c3) (v4 := .slice Aa abouts.length ca) (v5 := .slice An nums.length cn) (v6 := .int .u64 (rate : Int)) (v7 := .int .i64 ty) (v8 := .int .i64 count) (v9 := .slice Ab body.length cb) C4
  have bF : Below w.heap.size w (set10 (W3.setCell ⟨w.heap.size, 3, none⟩ (.slice A3 (tups.length + 1) c3)) (w.heap.size + 1) (.int .i64 kind) (.int .u32 (src : Int)) (.int .u32 (about : Int)) (.slice A3 (tups.length + 1) c3) (.slice Aa abouts.length ca) (.slice An nums.length cn) (.int .u64 (rate : Int)) (.int .i64 ty) (.int .i64 count) (.slice Ab body.length cb)) := (Below.setCell b3 (p := ⟨w.heap.size, 3, none⟩) (Nat.le_refl _) _).trans (set10_below (by omega))
  have r4 := (RT.but' R3.out (but_setCell W3 w.heap.size 3 (.slice A3 (tups.length + 1) c3)) (fun ad e => by have := A3'.out ad e; omega)).but' (but_set10 (W3.setCell ⟨w.heap.size, 3, none⟩ (.slice A3 (tups.length + 1) c3)) (w.heap.size + 1) (.int .i64 kind) (.int .u32 (src : Int)) (.int .u32 (about : Int)) (.slice A3 (tups.length + 1) c3) (.slice Aa abouts.length ca) (.slice An nums.length cn) (.int .u64 (rate : Int)) (.int .i64 ty) (.int .i64 count) (.slice Ab body.length cb)) (fun ad e => by have := A3'.out ad e; omega)
  change bodyPost _ _ _ _ _ (set10 (W3.setCell ⟨w.heap.size, 3, none⟩ (.slice A3 (tups.length + 1) c3)) (w.heap.size + 1) (.int .i64 kind) (.int .u32 (src : Int)) (.int .u32 (about : Int)) (.slice A3 (tups.length + 1) c3) (.slice Aa abouts.length ca) (.slice An nums.length cn) (.int .u64 (rate : Int)) (.int .i64 ty) (.int .i64 count) (.slice Ab body.length cb))
  generalize set10 (W3.setCell ⟨w.heap.size, 3, none⟩ (.slice A3 (tups.length + 1) c3)) (w.heap.size + 1) (.int .i64 kind) (.int .u32 (src : Int)) (.int .u32 (about : Int)) (.slice A3 (tups.length + 1) c3) (.slice Aa abouts.length ca) (.slice An nums.length cn) (.int .u64 (rate : Int)) (.int .i64 ty) (.int .i64 count) (.slice Ab body.length cb) = WF at *
  obtain ⟨k0, k1, k2, k3, k4, k5, k6, k7, k8, k9⟩ := blk10 F4
  refine bodyPost_ret (by simp [results, Try.results12, go_sem, k0, k1, k2, k3, k4, k5, k6, k7, k8, k9]; try rfl) rfl ?_
  have hx := HX.out.on bF
  have hal := HALL.out
  exact ⟨⟨⟨kind, src, about, tups ++ [⟨0, 0, n⟩], abouts, nums, rate, ty, count, body⟩, A3, c3, Aa, ca, An, cn, Ab, cb⟩, by simp [Rv.val, Rv.cells], rfl, ⟨r4, hx.abouts, hx.nums, hx.body, { hx.kinds with tups := by simp only [List.length_append, List.length_cons, List.length_nil]; omega }⟩, bF⟩
end Go.Proofs.Ytnchgmemajmkjaa
namespace Go.Proofs.Ytnchgmemajmkjaa
open Go.RowKit
set_option linter.unusedVariables false
set_option linter.unusedSimpArgs false
set_option maxRecDepth 20000

theorem zeroCells_zL (k : Nat) : Builtin.zeroCells (Value.int .u8 0).cells k = ((List.replicate k (0 : UInt8)).map bv).toArray := by
  apply Array.ext
  · simp [Builtin.zeroCells, Value.cells]
  · intro i h1 h2
    have : i % 1 = 0 := Nat.mod_one i
    simp [Builtin.zeroCells, Value.cells, bv, this]
set_option maxHeartbeats 1000000 in
theorem run_append_zeros8L (w : World) (base : Nat) (v : Value) (l : List UInt8) (hown : Own8 w base v l) (k : Nat) (hk0 : 0 < k) (hk : l.length + k ≤ 1000000) (hbase : base ≤ w.heap.size) (ty : TypeId) :
    ∃ v' w', (Builtin.append_ #[31, 2] ty #[v, .int .i64 (k : Int)]).run Try.prog w = .ok v' w' ∧ App8 w base v (l ++ List.replicate k 0) v' w' := by
  obtain ⟨i0, hi0, hz0, hz1, hz2⟩ := info_parts u8_info
  have grown : ∀ (old : Nat), old < l.length + k → ∀ (row : Option Nat),
      Own8 (w.drew.alloc (.cells ((l.map bv).toArray ++ Builtin.zeroCells (Value.int .u8 0).cells k ++ Builtin.zeroCells (Value.int .u8 0).cells (grownCap w (l.length + k) old 5 - (l.length + k))) 5)) base (.slice (some ⟨w.heap.size, 0, none⟩) (l.length + k) (grownCap w (l.length + k) old 5)) (l ++ List.replicate k 0) ∧
      w.grownBy (w.drew.alloc (.cells ((l.map bv).toArray ++ Builtin.zeroCells (Value.int .u8 0).cells k ++ Builtin.zeroCells (Value.int .u8 0).cells (grownCap w (l.length + k) old 5 - (l.length + k))) 5)) row := by
    intro old ho row
    have hge := grownCap_ge w (l.length + k) old 5
    have hcm := grownCap_le_maxLen w (l.length + k) old 5 (by unfold maxLen; omega)
    have hll : (l ++ List.replicate k (0 : UInt8)).length = l.length + k := by simp
    refine ⟨⟨by simp, .inr ⟨w.heap.size, _, _, by rw [hll], hbase, heap_alloc_new w.drew _, by omega, hcm, ?_, ?_⟩⟩, ⟨rfl, rfl, rfl, by simp, fun j hj _ => heap_alloc_old w.drew _ hj⟩⟩
    · simp [Builtin.zeroCells, Value.cells]
      omega
    · rw [zeroCells_zL, hll, Nat.mul_one]
      simp only [Array.toList_append, List.append_assoc]
      rw [← List.append_assoc, List.map_append]
      have : l.length + k = ((l.map bv) ++ (List.replicate k (0 : UInt8)).map bv).length := by simp
      rw [this]
      exact List.take_left
  have hwk : IntKind.i64.wrap (k : Int) = k := by rw [IntKind.wrap_i64]; omega
  rcases hown.2 with ⟨rfl, hn⟩ | ⟨g, cap, cur, rfl, hbg, hg, hnc, hcm, hcs, htake⟩
  · have hl : l = [] := List.eq_nil_of_length_eq_zero hn
    subst hl
    have hold : (Builtin.firstCells i0.size 0 (.slice none 0 0)).run Try.prog w.drew = .ok ([] : List Value).toArray w.drew := run_firstCells_none w.drew i0.size 0 0 0
    have hr := Lib.run_append_grow_zeros (P := Try.prog) w 31 2 ty 5 i0 _ .i64 .i64 Try.underlying31 Try.underlying2 hi0 hz0 none 0 0 [] hold k hk0 (by omega) (by omega) (by omega) (by rw [hz2]; omega)
      (by rw [hz2]; exact growslice_fits (by omega) (by omega))
    have hgr := grown 0 (by simp; omega) (Value.ownBlock (.slice none 0 0))
    simp only [List.length_nil, Nat.zero_add, List.map_nil, List.nil_append] at hgr hr ⊢
    exact ⟨_, _, hr, hgr.1, hgr.2, Or.inr rfl⟩
  · rw [Nat.mul_one] at hcs htake
    by_cases hroom : l.length + k ≤ cap
    · have hnk : k ≠ 0 := by omega
      have hl1 : ((List.replicate k (0 : UInt8)).map bv).length = k := by simp
      have hst := run_storeCells_at Try.prog g l.length 5 ((List.replicate k (0 : UInt8)).map bv) 0 cur w hg (by rw [hl1]; omega) (bv_one _)
      simp only [Nat.add_zero, hl1] at hst
      have h48i : ¬ (281474976710656 < (k : Int)) := by omega
      have hneg : ¬ ((k : Int) < 0) := by omega
      obtain ⟨Z, hZ⟩ : ∃ Z, (List.replicate k (0 : UInt8)).map bv = Z := ⟨_, rfl⟩
      have hzc : Builtin.zeroCells (Value.int .u8 0).cells k = Z.toArray := by rw [zeroCells_zL, hZ]
      rw [hZ] at hst hl1
      have hr : (Builtin.append_ #[31, 2] ty #[.slice (some ⟨g, 0, none⟩) l.length cap, .int .i64 (k : Int)]).run Try.prog w = .ok (.slice (some ⟨g, 0, none⟩) (l.length + k) cap) (w.setRow g (cur.toList.take l.length ++ Z ++ cur.toList.drop (l.length + k)).toArray) := by
        simp [Builtin.append_, run_underlying Try.underlying31, run_underlying Try.underlying2, sizeOf, typeInfo, zeroValue, hi0, hz0, hz1, hz2, asInt, asIntOf, hwk, hneg, h48i, hnk, hroom, hzc, Addr.add_lit, hst]
      refine ⟨_, _, hr, ⟨by simp, .inr ⟨g, cap, _, by simp, hbg, setRow_heap w g cur _ 5 _ hg, by simp; omega, hcm, ?_, ?_⟩⟩, ⟨rfl, rfl, rfl, by simp, fun j _ hj => setRow_other w g j _ (fun e => hj (by simp [Value.ownBlock, e]))⟩, Or.inl rfl⟩
      · simp
        omega
      · rw [htake, List.length_append, List.length_replicate, Nat.mul_one, List.map_append, ← hZ]
        have : l.length + k = ((l.map bv) ++ (List.replicate k (0 : UInt8)).map bv).length := by simp
        rw [this]
        exact List.take_left
    · have holds : ∀ j u, (l.map bv)[j]? = some u → w.cell? ((⟨g, 0, none⟩ : Addr).add j) = some u := World.ownsRow.cells hown (g := g) rfl
      have hold : (Builtin.firstCells i0.size l.length (.slice (some ⟨g, 0, none⟩) l.length cap)).run Try.prog w.drew = .ok (l.map bv).toArray w.drew := run_firstCells_some w.drew i0.size l.length ⟨g, 0, none⟩ l.length cap (l.map bv) (by rw [hz1]; simp) holds
      have hr := Lib.run_append_grow_zeros (P := Try.prog) w 31 2 ty 5 i0 _ .i64 .i64 Try.underlying31 Try.underlying2 hi0 hz0 (some ⟨g, 0, none⟩) l.length cap (l.map bv) hold k hk0 (by omega) (by omega) (by omega) (by rw [hz2]; omega)
        (by rw [hz2]; exact growslice_fits (by omega) (by omega))
      have hgr := grown cap (by omega) (Value.ownBlock (.slice (some ⟨g, 0, none⟩) l.length cap))
      exact ⟨_, _, hr, hgr.1, hgr.2, Or.inr rfl⟩
theorem wpList_append_zeros8L {w : World} {ops : Array Oper} {rest : List Oper} {o : Oper} {a : Act} {Q : Exit → Act → World → Prop} (hgd : o.guard = none) (s x : Operand)
    (ho : o.op = .call { callee := .builtin .append, args := #[s, x], argTypes := #[31, 2] })
    (base : Nat) (v : Value) (l : List UInt8) (hs : a.eval s = v) (hown : Own8 w base v l) (k : Nat) (hx : a.eval x = .int .i64 (k : Int)) (hk0 : 0 < k) (hk : l.length + k ≤ 1000000) (hbase : base ≤ w.heap.size)
    (h : ∀ v' w', App8 w base v (l ++ List.replicate k 0) v' w' → wpList Try.prog ops Q rest (a.put o.dst v') w') : wpList Try.prog ops Q (o :: rest) a w :=
  wpList_plain hgd fun K hK => by
    obtain ⟨v', w', hrun, h2⟩ := run_append_zeros8L w base v l hown k hk0 hk hbase o.type
    unfold Oper.wp execOp
    simp only [ho, resolve, invoke, builtin, Sem.run_bind, Sem.run_pure, Result.andThen_ok, List.map_toArray, List.map_cons, List.map_nil, hs, hx, hrun]
    exact hK _ _ (h v' w' h2)
end Go.Proofs.Ytnchgmemajmkjaa
namespace Go.Proofs.Ytnchgmemajmkjaa
open Go.RowKit
set_option linter.unusedVariables false
set_option linter.unusedSimpArgs false
set_option maxRecDepth 20000

theorem own8_none6 (w : World) (base : Nat) (hb : base ≤ w.heap.size) : Own8 (w.alloc (.cells #[] 5)) base (.slice (some ⟨w.heap.size, 0, none⟩) 0 0) [] :=
  ⟨rfl, .inr ⟨w.heap.size, 0, #[], rfl, hb, Blk.new _ _ _, Nat.le_refl _, by decide, rfl, rfl⟩⟩
theorem own8_at6 {w : World} {b : Nat} {v : Value} {l : List UInt8} (h : Own8 w b v l) : ∀ k, v.ownBlock = some k → b ≤ k := fun k hk => (World.ownsRow.lt h k hk).1
theorem own8_row6 {w : World} {b : Nat} {v : Value} {l : List UInt8} (h : Own8 w b v l) : ∃ A c, v = .slice A l.length c ∧ R8 w w.heap.size A l.length c l ∧ ∀ ad, A = some ad → b ≤ ad.block := by
  obtain ⟨A, c, e, r⟩ := h.r8
  exact ⟨A, c, e, r, fun ad ha => own8_at6 h ad.block (by subst ha; rw [e]; rfl)⟩
theorem odd_step8 {w V W2 : World} {x z : Array Value} {v v2 : Value} {l : List UInt8} (bV : Below w.heap.size w V) (B1 : Blk V w.heap.size 33 x) (C1 : Blk V (w.heap.size + 1) 33 z)
    (o2 : Own8 W2 (w.heap.size + 2) v2 l) (g2 : V.grownBy W2 v.ownBlock) (hs : w.heap.size + 2 ≤ V.heap.size) (hv : ∀ k, v.ownBlock = some k → w.heap.size + 2 ≤ k) :
    Own8 W2 (w.heap.size + 2) v2 l ∧ Below w.heap.size w W2 ∧ Blk W2 w.heap.size 33 x ∧ Blk W2 (w.heap.size + 1) 33 z ∧ w.heap.size + 2 ≤ W2.heap.size :=
  ⟨o2, below_grown bV (by omega) g2 (fun k hk => by have := hv k hk; omega), blk_grown B1 g2 (fun e => by have := hv _ e; omega), blk_grown C1 g2 (fun e => by have := hv _ e; omega), Nat.le_trans hs g2.size⟩
set_option maxHeartbeats 1000000 in
theorem odd_10 (x : Rv) (what n : Int) (w : World) (hx : IsR w w.heap.size x) (hn : I64 n) (hal : x.r.body.length ≤ 900000) (k : Nat) (hk : bits .and .i64 n 3 = (k : Int)) (hk3 : k ≤ 3) (hwi : ∀ W, Calls Try.prog 16 #[.int .i64 what, .int .i64 0, .int .i64 10] W fun e w' => e = .returned (.int .i64 10) ∧ w' = W) :
    Calls Try.prog 12 #[x.val, .int .i64 what, .int .i64 n] w (OddOut w { x.r with body := x.r.body ++ List.replicate (k + 1) 0 }) := by
  obtain ⟨⟨kind, src, about, tups, abouts, nums, rate, ty, count, body⟩, At, ct, Aa, ca, An, cn, Ab, cb⟩ := x
  simp only [Rv.val, Rv.cells]
  have h2 := hx.body
  simp only at h2 hal
  have HX := Lib.hid hx
  have H2 := Lib.hid h2
  clear hx h2
  go_enter Try.func12, Try.ntmps12
  go_wp2_with fail
  ((with_reducible refine (hwi _).mono ?_); rintro e w1 ⟨rfl, rfl⟩)
  clear hwi
  go_upto_region 2 with (fail)
  have hs1 : (w.alloc (.cells #[.int .i64 kind, .int .u32 (src : Int), .int .u32 (about : Int), .slice At tups.length ct, .slice Aa abouts.length ca, .slice An nums.length cn, .int .u64 (rate : Int), .int .i64 ty, .int .i64 count, .slice Ab body.length cb] 33)).heap.size = w.heap.size + 1 := by simp
  have bW := ((Below.refl w.heap.size w).alloc (Nat.le_refl _) (.cells #[.int .i64 kind, .int .u32 (src : Int), .int .u32 (about : Int), .slice At tups.length ct, .slice Aa abouts.length ca, .slice An nums.length cn, .int .u64 (rate : Int), .int .i64 ty, .int .i64 count, .slice Ab body.length cb] 33)).alloc (by rw [hs1]; omega) (.cells #[.int .i64 0, .int .u32 0, .int .u32 0, .slice none 0 0, .slice none 0 0, .slice none 0 0, .int .u64 0, .int .i64 0, .int .i64 0, .slice none 0 0] 33)
  have B0 : Blk ((w.alloc (.cells #[.int .i64 kind, .int .u32 (src : Int), .int .u32 (about : Int), .slice At tups.length ct, .slice Aa abouts.length ca, .slice An nums.length cn, .int .u64 (rate : Int), .int .i64 ty, .int .i64 count, .slice Ab body.length cb] 33)).alloc (.cells #[.int .i64 0, .int .u32 0, .int .u32 0, .slice none 0 0, .slice none 0 0, .slice none 0 0, .int .u64 0, .int .i64 0, .int .i64 0, .slice none 0 0] 33)) w.heap.size 33 #[.int .i64 kind, .int .u32 (src : Int), .int .u32 (about : Int), .slice At tups.length ct, .slice Aa abouts.length ca, .slice An nums.length cn, .int .u64 (rate : Int), .int .i64 ty, .int .i64 count, .slice Ab body.length cb] := Blk.alloc (Blk.new _ _ _) _
  have C0 : Blk ((w.alloc (.cells #[.int .i64 kind, .int .u32 (src : Int), .int .u32 (about : Int), .slice At tups.length ct, .slice Aa abouts.length ca, .slice An nums.length cn, .int .u64 (rate : Int), .int .i64 ty, .int .i64 count, .slice Ab body.length cb] 33)).alloc (.cells #[.int .i64 0, .int .u32 0, .int .u32 0, .slice none 0 0, .slice none 0 0, .slice none 0 0, .int .u64 0, .int .i64 0, .int .i64 0, .slice none 0 0] 33)) (w.heap.size + 1) 33 #[.int .i64 0, .int .u32 0, .int .u32 0, .slice none 0 0, .slice none 0 0, .slice none 0 0, .int .u64 0, .int .i64 0, .int .i64 0, .slice none 0 0] := by
    have h := Blk.new (w.alloc (.cells #[.int .i64 kind, .int .u32 (src : Int), .int .u32 (about : Int), .slice At tups.length ct, .slice Aa abouts.length ca, .slice An nums.length cn, .int .u64 (rate : Int), .int .i64 ty, .int .i64 count, .slice Ab body.length cb] 33)) 33 #[.int .i64 0, .int .u32 0, .int .u32 0, .slice none 0 0, .slice none 0 0, .slice none 0 0, .int .u64 0, .int .i64 0, .int .i64 0, .slice none 0 0]
    rwa [hs1] at h
  have hsz : w.heap.size + 2 ≤ ((w.alloc (.cells #[.int .i64 kind, .int .u32 (src : Int), .int .u32 (about : Int), .slice At tups.length ct, .slice Aa abouts.length ca, .slice An nums.length cn, .int .u64 (rate : Int), .int .i64 ty, .int .i64 count, .slice Ab body.length cb] 33)).alloc (.cells #[.int .i64 0, .int .u32 0, .int .u32 0, .slice none 0 0, .slice none 0 0, .slice none 0 0, .int .u64 0, .int .i64 0, .int .i64 0, .slice none 0 0] 33)).heap.size := by simp
  clear hs1
  generalize (w.alloc (.cells #[.int .i64 kind, .int .u32 (src : Int), .int .u32 (about : Int), .slice At tups.length ct, .slice Aa abouts.length ca, .slice An nums.length cn, .int .u64 (rate : Int), .int .i64 ty, .int .i64 count, .slice Ab body.length cb] 33)).alloc (.cells #[.int .i64 0, .int .u32 0, .int .u32 0, .slice none 0 0, .slice none 0 0, .slice none 0 0, .int .u64 0, .int .i64 0, .int .i64 0, .slice none 0 0] 33) = V at *
  have hr := H2.out.on (bW.alloc (by omega) (.cells #[] 5))
  have ho := own8_none6 V (w.heap.size + 2) hsz
  have hbs : w.heap.size + 2 ≤ (V.alloc (.cells #[] 5)).heap.size := by have := (Below.refl V.heap.size V).alloc (Nat.le_refl _) (.cells #[] 5) |>.size; omega
  have bV := bW.alloc (by omega) (.cells #[] 5)
  have B1 := Blk.alloc B0 (.cells #[] 5)
  have C1 := Blk.alloc C0 (.cells #[] 5)
  have y4 : V.cell? ⟨w.heap.size, 9, none⟩ = some (.slice Ab body.length cb) := (B0.cell 9).trans rfl
  have hv0 : w.heap.size < V.heap.size := by omega
  have HR := Lib.hid hr
  have HO := Lib.hid ho
  have HBS := Lib.hid hbs
  have HAL := Lib.hid (show ([] : List UInt8).length + body.length ≤ 140737488355328 by simp; omega)
  have HALL := Lib.hid hal
  have HSZ := Lib.hid hsz
  have hne : V.heap.size ≠ w.heap.size := by omega
  have hne1 : V.heap.size ≠ w.heap.size + 1 := by omega
  have HNE := Lib.hid hne
  have HNE1 := Lib.hid hne1
  clear hr ho hbs B0 C0 hsz hal hne hne1 bW
  have HK0 := Lib.hid (show 0 < k + 1 by omega)
  have hk1 : (k : Int) + 1 = ((k + 1 : Nat) : Int) := by omega
  have HK1 := Lib.hid hk1
  clear hk1
  go_wp2_with (at_builtin; first
    | ((with_reducible refine wpList_append8 rfl (.tmp 9) (.tmp 11) rfl rfl (w.heap.size + 2) _ _ (by with_unfolding_all rfl) HO.out _ Ab body.length cb body (by with_unfolding_all rfl) HR.out HAL.out HBS.out ?_); intro v2 W2 h2; obtain ⟨o2, g2, _⟩ := h2; have q2 := odd_step8 (bV := bV) (B1 := B1) (C1 := C1) o2 g2 HBS.out (own8_at6 HO.out); clear bV B1 C1 o2 g2; obtain ⟨o2, b2, B2, C2, s2⟩ := q2; have HAL2 := Lib.hid (show body.length + (k + 1) ≤ 1000000 by have := HALL.out; omega); have o2 : Own8 W2 (w.heap.size + 2) v2 body := o2)
    | go_loud ((with_reducible refine wpList_append_zeros8L rfl (.tmp 12) (.tmp 15) rfl (w.heap.size + 2) _ body (by with_unfolding_all rfl) o2 (k + 1) (by with_unfolding_all exact congrArg _ HK1.out) HK0.out HAL2.out s2 ?_); intro v3 W3 h3; obtain ⟨o3, g3, _⟩ := h3; have q3 := odd_step8 (bV := b2) (B1 := B2) (C1 := C2) o3 g3 s2 (own8_at6 o2); clear b2 B2 C2 o2 o3 g3 s2; obtain ⟨o3, b3, B3, C3, s3⟩ := q3; obtain ⟨A3, c3, rfl, r3, a3⟩ := own8_row6 o3; have R3 := Lib.hid r3; have A3' := Lib.hid a3; have B3' := Lib.hid B3; have C3' := Lib.hid C3; clear r3 a3 o3; obtain ⟨y0, y1, y2, y3, y4, y5, y6, y7, y8, y9⟩ := blk10 B3; obtain ⟨z0, z1, z2, z3, z4, z5, z6, z7, z8, z9⟩ := frz10 B3; obtain ⟨u0, u1, u2, u3, u4, u5, u6, u7, u8, u9⟩ := frz10 C3; obtain ⟨t0, t1, t2, t3, t4, t5, t6, t7, t8, t9⟩ := blk10 C3; clear B3 C3))
  clear y0 y1 y2 y3 y4 y5 y6 y7 y8 y9 z0 z1 z2 z3 z4 z5 z6 z7 z8 z9 u0 u1 u2 u3 u4 u5 u6 u7 u8 u9 t0 t1 t2 t3 t4 t5 t6 t7 t8 t9
  have C4 : Blk (W3.setCell ⟨w.heap.size, 9, none⟩ (.slice A3 (body.length + (k + 1)) c3)) (w.heap.size + 1) 33 #[.int .i64 0, .int .u32 0, .int .u32 0, .slice none 0 0, .slice none 0 0, .slice none 0 0, .int .u64 0, .int .i64 0, .int .i64 0, .slice none 0 0] := (Below.heap_setCell _ _ _ _ (by simp)).trans C3'.out
  have F4 := set10_blk (W := (W3.setCell ⟨w.heap.size, 9, none⟩ (.slice A3 (body.length + (k + 1)) c3))) (R := w.heap.size + 1) (v0 := .int .i64 kind) (v1 := .int .u32 (src : Int)) (v2 := .int .u32 (about : Int)) (v3 := .slice At tups.length ct) (v4 := .slice Aa abouts.length ca) (v5 := .slice An nums.length cn) (v6 := .int .u64 (rate : Int)) (v7 := .int .i64 ty) (v8 := .int .i64 count) (v9 := .slice A3 (body.length + (k + 1)) c3) C4
  have bF : Below w.heap.size w (set10 (W3.setCell ⟨w.heap.size, 9, none⟩ (.slice A3 (body.length + (k + 1)) c3)) (w.heap.size + 1) (.int .i64 kind) (.int .u32 (src : Int)) (.int .u32 (about : Int)) (.slice At tups.length ct) (.slice Aa abouts.length ca) (.slice An nums.length cn) (.int .u64 (rate : Int)) (.int .i64 ty) (.int .i64 count) (.slice A3 (body.length + (k + 1)) c3)) := (Below.setCell b3 (p := ⟨w.heap.size, 9, none⟩) (Nat.le_refl _) _).trans (set10_below (by omega))
  have r4 := (R3.out.but (but_setCell W3 w.heap.size 9 (.slice A3 (body.length + (k + 1)) c3)) (fun ad e => by have := A3'.out ad e; omega)).but (but_set10 (W3.setCell ⟨w.heap.size, 9, none⟩ (.slice A3 (body.length + (k + 1)) c3)) (w.heap.size + 1) (.int .i64 kind) (.int .u32 (src : Int)) (.int .u32 (about : Int)) (.slice At tups.length ct) (.slice Aa abouts.length ca) (.slice An nums.length cn) (.int .u64 (rate : Int)) (.int .i64 ty) (.int .i64 count) (.slice A3 (body.length + (k + 1)) c3)) (fun ad e => by have := A3'.out ad e; omega)
  change bodyPost _ _ _ _ _ (set10 (W3.setCell ⟨w.heap.size, 9, none⟩ (.slice A3 (body.length + (k + 1)) c3)) (w.heap.size + 1) (.int .i64 kind) (.int .u32 (src : Int)) (.int .u32 (about : Int)) (.slice At tups.length ct) (.slice Aa abouts.length ca) (.slice An nums.length cn) (.int .u64 (rate : Int)) (.int .i64 ty) (.int .i64 count) (.slice A3 (body.length + (k + 1)) c3))
  generalize set10 (W3.setCell ⟨w.heap.size, 9, none⟩ (.slice A3 (body.length + (k + 1)) c3)) (w.heap.size + 1) (.int .i64 kind) (.int .u32 (src : Int)) (.int .u32 (about : Int)) (.slice At tups.length ct) (.slice Aa abouts.length ca) (.slice An nums.length cn) (.int .u64 (rate : Int)) (.int .i64 ty) (.int .i64 count) (.slice A3 (body.length + (k + 1)) c3) = WF at *
  obtain ⟨k0, k1, k2, k3, k4, k5, k6, k7, k8, k9⟩ := blk10 F4
  refine bodyPost_ret (by simp [results, Try.results12, go_sem, k0, k1, k2, k3, k4, k5, k6, k7, k8, k9]; try rfl) rfl ?_
  have hx := HX.out.on bF
  have hal := HALL.out
  exact ⟨⟨⟨kind, src, about, tups, abouts, nums, rate, ty, count, body ++ List.replicate (k + 1) 0⟩, At, ct, Aa, ca, An, cn, A3, c3⟩, by simp [Rv.val, Rv.cells], rfl, ⟨hx.tups, hx.abouts, hx.nums, r4, { hx.kinds with body := by simp only [List.length_append, List.length_replicate]; omega }⟩, bF⟩
/-- odd answers a report, whatever it is asked. -/
theorem odd_any (x : Rv) (what n : Int) (w : World) (hx : IsR w w.heap.size x) (hw : I64 what) (hn : I64 n) (h1 : x.r.tups.length ≤ 900000) (h2 : x.r.abouts.length ≤ 900000) (h3 : x.r.nums.length ≤ 900000) (h4 : x.r.body.length ≤ 900000) :
    Calls Try.prog 12 #[x.val, .int .i64 what, .int .i64 n] w fun e w' => ∃ r, OddOut w r e w' := by
  obtain ⟨j, hj0, hj10, _, hwi⟩ := within_ex what 0 10 hw (by omega) (by omega) (by omega)
  have hj : j = 0 ∨ j = 1 ∨ j = 2 ∨ j = 3 ∨ j = 4 ∨ j = 5 ∨ j = 6 ∨ j = 7 ∨ j = 8 ∨ j = 9 ∨ j = 10 := by omega
  rcases hj with rfl | rfl | rfl | rfl | rfl | rfl | rfl | rfl | rfl | rfl | rfl
  · exact (odd_0 x what n w hx hn hwi).mono fun _ _ h => ⟨_, h⟩
  · exact (odd_1 x what n w hx hn hwi).mono fun _ _ h => ⟨_, h⟩
  · exact (odd_2 x what n w hx hn hwi).mono fun _ _ h => ⟨_, h⟩
  · exact (odd_3 x what n w hx hn hwi).mono fun _ _ h => ⟨_, h⟩
  · exact (odd_4 x what n w hx hn h1 hwi).mono fun _ _ h => ⟨_, h⟩
  · exact (odd_5 x what n w hx hn h1 hwi).mono fun _ _ h => ⟨_, h⟩
  · exact (odd_6 x what n w hx hn h2 hwi).mono fun _ _ h => ⟨_, h⟩
  · exact (odd_7 x what n w hx hn h3 hwi).mono fun _ _ h => ⟨_, h⟩
  · exact (odd_8 x what n w hx hn hwi).mono fun _ _ h => ⟨_, h⟩
  · exact (odd_9 x what n w hx hn hwi).mono fun _ _ h => ⟨_, h⟩
  · have h : (BitVec.ofInt 64 n &&& BitVec.ofInt 64 3).toNat ≤ 3 := by
      rw [BitVec.toNat_and, show (BitVec.ofInt 64 3).toNat = 3 by decide]
      exact Nat.and_le_right
    refine (odd_10 x what n w hx hn h4 (BitVec.ofInt 64 n &&& BitVec.ofInt 64 3).toNat ?_ h hwi).mono fun _ _ h => ⟨_, h⟩
    show IntKind.i64.wrap ((BitVec.ofInt 64 n &&& BitVec.ofInt 64 3).toNat : Int) = _
    rw [IntKind.wrap_i64]
    omega
end Go.Proofs.Ytnchgmemajmkjaa
namespace Go.Proofs.Ytnchgmemajmkjaa.RP
open Go.RowKit
set_option linter.unusedVariables false
set_option linter.unusedSimpArgs false
set_option maxRecDepth 20000

/-- A byte of a row of one's own is written. -/
theorem own8_setAt6 {w : World} {base g c i n : Nat} {l : List UInt8} (h : Own8 w base (.slice (some ⟨g, 0, none⟩) n c) l) (hi : i < l.length) (x : UInt8) : Own8 (w.setCell ⟨g, i, none⟩ (.int .u8 (x.toNat : Int))) base (.slice (some ⟨g, 0, none⟩) n c) (l.set i x) := by
  rcases h.2 with ⟨hv, _⟩ | ⟨g', cap, cur, hv, hb, hg, hnc, hm, hs, ht⟩
  · cases hv
  · injection hv with h1 h2 h3
    injection h1 with h1
    injection h1 with h1 _ _
    subst h1 h2 h3
    refine ⟨by simp, .inr ⟨g, c, _, by simp, hb, Blk.set_ (w := w) (g := g) hg i (.int .u8 (x.toNat : Int)), by simpa using hnc, hm, by simpa using hs, ?_⟩⟩
    rw [Nat.mul_one] at ht ⊢
    rw [List.length_set, Array.toList_setIfInBounds, List.take_set, ht, List.map_set]
    rfl
theorem own8_some6 {w : World} {base : Nat} {v : Value} {l : List UInt8} (h : Own8 w base v l) (hl : 0 < l.length) : ∃ g c, v = .slice (some ⟨g, 0, none⟩) l.length c ∧ base ≤ g ∧ g < w.heap.size ∧ (∀ i, w.frozen? ⟨g, i, none⟩ = false) ∧ ∀ i, i < l.length → w.cell? ⟨g, i, none⟩ = some (.int .u8 ((l.getD i 0).toNat : Int)) := by
  obtain ⟨A, c, hv, hr⟩ := h.r8
  rcases h.2 with ⟨hv', hn⟩ | ⟨g, cap, cur, hv', hb, hg, hnc, hm, hs, ht⟩
  · omega
  · rw [hv'] at hv
    injection hv with h1 h2 h3
    refine ⟨g, cap, hv', hb, (Array.getElem?_eq_some_iff.1 hg).1, fun i => by simp [World.frozen?, hg], fun i hi => ?_⟩
    obtain ⟨b, off, e, _, hc⟩ := hr.2.2 hl
    rw [← h1] at e
    injection e with e
    injection e with e1 e2 _
    subst e1 e2
    have := hc i hi
    rwa [Nat.zero_add] at this
/-- append([]byte{..}, b...): the first row has no room, so that nothing that was there turns. -/
theorem run_ahead6 (w : World) (g : Nat) (l0 : List UInt8) (h4 : l0.length = 4) (hB : Blk w g 5 (l0.map bv).toArray) (A : Option Addr) (n c : Nat) (l : List UInt8) (hr : R8 w w.heap.size A n c l) (hn : n ≤ 140737488351232) (ty : TypeId) :
    ∃ v' w' A' n' c', (Builtin.append_ #[31, 31] ty #[.slice (some ⟨g, 0, none⟩) 4 4, .slice A n c]).run Try.prog w = .ok v' w' ∧ Below w.heap.size w w' ∧ v' = .slice A' n' c' ∧ R8 w' w'.heap.size A' n' c' (l0 ++ l) := by
  obtain ⟨i0, hi0, hz0, hz1, hz2⟩ := info_parts u8_info
  have hl := hr.1
  have hg := hB.lt
  rcases Nat.eq_zero_or_pos n with h0 | h0
  · subst h0
    have hl0 : l = [] := List.eq_nil_of_length_eq_zero hl
    subst hl0
    have hr0 := hB.r8 (n := 4) (c := 4) h4 (Nat.le_refl _)
    refine ⟨.slice (some ⟨g, 0, none⟩) 4 4, w, some ⟨g, 0, none⟩, 4, 4, ?_, Below.refl _ _, rfl, by rw [List.append_nil]; exact hr0⟩
    cases A with
    | none => simp [Builtin.append_, run_underlying Try.underlying31, run_underlying Try.underlying5, sizeOf, typeInfo, hi0, Builtin.lenOf, Builtin.firstCells, storeCells]
    | some ad =>
      have hf := run_firstCells_some (P := Try.prog) w i0.size 0 ad 0 c [] (by simp) (by simp)
      simp [Builtin.append_, run_underlying Try.underlying31, run_underlying Try.underlying5, sizeOf, typeInfo, hi0, Builtin.lenOf, hf, storeCells]
  · obtain ⟨ad, rfl, hsrc⟩ := hr.src (by simpa [hl] using h0)
    have holds : ∀ j u, (l0.map bv)[j]? = some u → w.cell? ((⟨g, 0, none⟩ : Addr).add j) = some u := by
      intro j u hj
      have e : (⟨g, 0, none⟩ : Addr).add j = ⟨g, j, none⟩ := by unfold Addr.add; split <;> simp_all
      rw [e, hB.cell j]
      simpa using hj
    obtain ⟨v', w', hrun, hown, hgr⟩ := run_append_arg_grows (P := Try.prog) w 31 ty 5 i0 _ 1 1 Try.underlying31 hi0 hz0 hz1 hz2 rfl (by omega) ⟨g, 0, none⟩ 4 4 (l0.map bv) (by simp [h4]) holds ad n c (l.map bv) (by simp [hl]) hsrc (by omega) (by simp only [maxLen]; omega) (by omega)
    have ho : Own8 w' w.heap.size v' (l0 ++ l) := by
      unfold Own8
      rw [List.length_append, h4, hl, List.map_append]
      exact hown
    obtain ⟨A', c', hv, hR⟩ := ho.r8
    exact ⟨v', w', A', _, c', hrun, ⟨hgr.os, hgr.tape, hgr.output, hgr.size, fun k hk => hgr.block k hk (by simp)⟩, hv, hR⟩
theorem xor86 (a b : Int) : ∃ y : UInt8, bits BinOp.xor .u8 a b = (y.toNat : Int) := by
  have h0 := bits_lo_u8 BinOp.xor a b
  have h1 := bits_hi_u8 BinOp.xor a b
  exact ⟨UInt8.ofNat (bits BinOp.xor .u8 a b).toNat, by rw [UInt8.toNat_ofNat']; omega⟩
theorem or86 (a b : Int) : ∃ y : UInt8, bits BinOp.or .u8 a b = (y.toNat : Int) := by
  have h0 := bits_lo_u8 BinOp.or a b
  have h1 := bits_hi_u8 BinOp.or a b
  exact ⟨UInt8.ofNat (bits BinOp.or .u8 a b).toNat, by rw [UInt8.toNat_ofNat']; omega⟩
theorem i64_bits6 (op : BinOp) (a b : Int) : I64 (bits op .i64 a b) := ⟨bits_lo_i64 op a b, bits_hi_i64 op a b⟩
theorem run_cut_any {P : Program} (t e : TypeId) (ht : P.underlying t = some (.slice e)) (i0 : TypeInfo) (hi : P.info? e = some i0) (A : Option Addr) (n c k : Nat) (hk : k ≤ c) (w : World) :
    (Instr.slice t (.slice A n c) none (some (.int .i64 (k : Int))) none).run P w = .ok (.slice A k c) w := by
  have e0 : (if c = 0 then A else A.map (·.add 0)) = A := by
    split
    · rfl
    · cases A with
      | none => rfl
      | some a => simp [Addr.add]
  have hs : P.elem t = e := by simp [Program.elem, ht]
  have h3 := run_slice_h (P := P) w t A n c (by rw [hs]; exact ht) .i64 (k : Nat) (by omega) (by omega)
  rw [hs] at h3
  rw [h3]
  simp [sizeOf, typeInfo, hi, sliced, Result.andThen, e0]
/-! ### What a region's calls answer -/
def rvC : Cl := .pred (fun v W => ∃ x : Rv, v = x.val ∧ IsR W W.heap.size x) (fun v w w' hb ⟨x, h1, h2⟩ => ⟨x, h1, h2.on hb⟩)
theorem rvC_of {c : Cl} {v : Value} {W : World} (h : c.holds v W) (e : c = rvC) : ∃ x : Rv, v = x.val ∧ IsR W W.heap.size x := by subst e; exact h
def RepRet (w : World) (e : Ending) (w' : World) : Prop := ∃ v, e = .returned v ∧ Below w.heap.size w w' ∧ rvC.holds v w'
theorem rvC_ret {c : Cl} {w w' : World} {e : Ending} (hc : c = rvC) (h : RepRet w e w') : ∃ v, e = .returned v ∧ Below w.heap.size w w' ∧ c.holds v w' := by subst hc; exact h
theorem odd_c (x : Rv) (what n : Int) (w : World) (hx : IsR w w.heap.size x) (hw : I64 what) (hn : I64 n) (hs : x.r.tups.length ≤ 900000 ∧ x.r.abouts.length ≤ 900000 ∧ x.r.nums.length ≤ 900000 ∧ x.r.body.length ≤ 900000) :
    Calls Try.prog 12 #[x.val, .int .i64 what, .int .i64 n] w (RepRet w) :=
  (odd_any x what n w hx hw hn hs.1 hs.2.1 hs.2.2.1 hs.2.2.2).mono fun e w' ⟨r, y, h1, h2, h3, h4⟩ => ⟨_, h1, h4, y, rfl, h3⟩
def rowC (n : Nat) : Cl := .pred (fun v W => ∃ (A : Option Addr) (c : Nat) (L : List Rv), v = .slice A n c ∧ RR W W.heap.size A n c L) (fun v w w' hb ⟨A, c, L, h1, h2⟩ => ⟨A, c, L, h1, h2.on hb⟩)
theorem rowC_of {n : Nat} {c : Cl} {v : Value} {W : World} (h : c.holds v W) (e : c = rowC n) : ∃ (A : Option Addr) (c : Nat) (L : List Rv), v = .slice A n c ∧ RR W W.heap.size A n c L := by subst e; exact h
theorem rowC1_of {c : Cl} {v : Value} {W : World} (h : c.holds v W) (e : c = rowC 1) : ∃ (A : Option Addr) (c : Nat) (L : List Rv), v = .slice A 1 c ∧ RR W W.heap.size A 1 c L := rowC_of h e
theorem rowC2_of {c : Cl} {v : Value} {W : World} (h : c.holds v W) (e : c = rowC 2) : ∃ (A : Option Addr) (c : Nat) (L : List Rv), v = .slice A 2 c ∧ RR W W.heap.size A 2 c L := rowC_of h e
theorem rowC_mk {n : Nat} {c : Cl} {v : Value} {W : World} (e : c = rowC n) (h : ∃ (A : Option Addr) (c : Nat) (L : List Rv), v = .slice A n c ∧ RR W W.heap.size A n c L) : c.holds v W := by subst e; exact h
def fourC (l : List UInt8) : Cl := .pred (fun v W => ∃ g, v = .slice (some ⟨g, 0, none⟩) 4 4 ∧ Blk W g 5 (l.map bv).toArray) (fun v w w' hb ⟨g, h1, h2⟩ => ⟨g, h1, h2.below hb h2.lt⟩)
theorem fourC_of {l : List UInt8} {c : Cl} {v : Value} {W : World} (h : c.holds v W) (e : c = fourC l) : ∃ g, v = .slice (some ⟨g, 0, none⟩) 4 4 ∧ Blk W g 5 (l.map bv).toArray := by subst e; exact h
theorem fourC_mk {l : List UInt8} {c : Cl} {v : Value} {W : World} (e : c = fourC l) (h : ∃ g, v = .slice (some ⟨g, 0, none⟩) 4 4 ∧ Blk W g 5 (l.map bv).toArray) : c.holds v W := by subst e; exact h
def octC (l : List UInt8) : Cl := .bytes l
theorem octC_of {l : List UInt8} {c : Cl} {v : Value} {W : World} (h : c.holds v W) (e : c = octC l) : ∃ A n k, v = .slice A n k ∧ R8 W W.heap.size A n k l := by subst e; exact h
theorem octC_mk {l : List UInt8} {c : Cl} {v : Value} {W : World} (e : c = octC l) (h : ∃ A n k, v = .slice A n k ∧ R8 W W.heap.size A n k l) : c.holds v W := by subst e; exact h
/-! ### A report cut short; a row of reports beside a block that is written -/
theorem rx_take6 {w : World} {B n c size k : Nat} {A : Option Addr} {vs : List Value} (h : RX w B A n c size vs) (hk : k ≤ n) : RX w B A k c size (vs.take (k * size)) :=
  ⟨by rw [List.length_take, h.1]; exact Nat.min_eq_left (Nat.mul_le_mul_right _ hk), Nat.le_trans hk h.2.1, fun hn => by
    obtain ⟨b, off, e, hb, hc⟩ := h.2.2 (by omega)
    refine ⟨b, off, e, hb, fun j v hj => hc j v ?_⟩
    rw [List.getElem?_take] at hj
    split at hj
    · exact hj
    · cases hj⟩
theorem flat_take {α β : Type} {f : α → List β} {m : Nat} (h : ∀ x, (f x).length = m) : ∀ (l : List α) (k : Nat), (l.flatMap f).take (k * m) = (l.take k).flatMap f
  | [], k => by simp
  | x :: r, 0 => by simp
  | x :: r, k + 1 => by
    have ih := flat_take h r k
    rw [List.flatMap_cons, List.take_succ_cons, List.flatMap_cons, List.take_append, h, show (k + 1) * m - m = k * m by rw [Nat.add_mul]; omega, ih, List.take_of_length_le (by rw [h, Nat.add_mul]; omega)]
theorem rt_take {w : World} {B n c k : Nat} {A : Option Addr} {l : List Tup} (h : RT w B A n c l) (hk : k ≤ n) : RT w B A k c (l.take k) := by
  have h2 := rx_take6 h.2.2 hk
  have e : (cellsT l).take (k * 3) = cellsT (l.take k) := flat_take (f := Tup.cells) (m := 3) (fun _ => rfl) l k
  rw [e] at h2
  exact ⟨by rw [List.length_take, h.1]; omega, fun t ht => h.2.1 t (List.mem_of_mem_take ht), h2⟩
theorem rn_take {w : World} {B n c k : Nat} {A : Option Addr} {l : List Int} (h : RN w B A n c l) (hk : k ≤ n) : RN w B A k c (l.take k) := by
  have h2 := rx_take6 h.2.2 hk
  rw [Nat.mul_one, ← List.map_take] at h2
  exact ⟨by rw [List.length_take, h.1]; omega, fun t ht => h.2.1 t (List.mem_of_mem_take ht), h2⟩
theorem r32_take {w : World} {B n c k : Nat} {A : Option Addr} {l : List Nat} (h : R32 w B A n c l) (hk : k ≤ n) : R32 w B A k c (l.take k) :=
  ⟨by rw [List.length_take, h.1]; omega, Nat.le_trans hk h.2.1, fun x hx => h.2.2.1 x (List.mem_of_mem_take hx), fun hn => by
    obtain ⟨b, off, e, hb, hc⟩ := h.2.2.2 (by omega)
    refine ⟨b, off, e, hb, fun i hi => ?_⟩
    rw [hc i (by omega)]
    simp [List.getD_eq_getElem?_getD, List.getElem?_take, hi]⟩
theorem rep_cut {w : World} {B : Nat} {q : Rv} {k1 k2 k3 : Nat} (h : IsR w B q) (h1 : k1 ≤ q.r.tups.length) (h2 : k2 ≤ q.r.abouts.length) (h3 : k3 ≤ q.r.nums.length) :
    ∃ y : Rv, IsR w B y ∧ y.cells = [.int .i64 q.r.kind, .int .u32 (q.r.src : Int), .int .u32 (q.r.about : Int), .slice q.At k1 q.ct, .slice q.Aa k2 q.ca, .slice q.An k3 q.cn, .int .u64 (q.r.rate : Int), .int .i64 q.r.ty, .int .i64 q.r.count, .slice q.Ab q.r.body.length q.cb] := by
  have e1 : (q.r.tups.take k1).length = k1 := by rw [List.length_take]; omega
  have e2 : (q.r.abouts.take k2).length = k2 := by rw [List.length_take]; omega
  have e3 : (q.r.nums.take k3).length = k3 := by rw [List.length_take]; omega
  refine ⟨⟨{ q.r with tups := q.r.tups.take k1, abouts := q.r.abouts.take k2, nums := q.r.nums.take k3 }, q.At, q.ct, q.Aa, q.ca, q.An, q.cn, q.Ab, q.cb⟩, ⟨?_, ?_, ?_, h.body, ?_⟩, ?_⟩
  · simp only [e1]
    exact rt_take h.tups h1
  · simp only [e2]
    exact r32_take h.abouts h2
  · simp only [e3]
    exact rn_take h.nums h3
  · have hk := h.kinds
    exact ⟨hk.kind, hk.src, hk.about, hk.rate, hk.ty, hk.count, by have := hk.tups; simp only [e1]; omega, by have := hk.abouts; simp only [e2]; omega, by have := hk.nums; simp only [e3]; omega, hk.body⟩
  · simp only [Rv.cells, e1, e2, e3]
theorem RR.but6 {w w' : World} {A : Option Addr} {n c R : Nat} {L : List Rv} (h : RR w w.heap.size A n c L) (hb : But R w w') (hA : ∀ ad, A = some ad → ad.block ≠ R) (hL : ∀ x ∈ L, x.Off R) : RR w' w'.heap.size A n c L :=
  ⟨h.1, fun x hx => (h.2.1 x hx).but hb (hL x hx), h.2.2.but hb hA⟩
theorem but_three {w : World} {R i j k : Nat} {u v x : Value} : But R w (((w.setCell ⟨R, i, none⟩ u).setCell ⟨R, j, none⟩ v).setCell ⟨R, k, none⟩ x) :=
  ((but_setCell _ _ _ _).trans (but_setCell _ _ _ _)).trans (but_setCell _ _ _ _)
theorem cut_hT (A : Option Addr) (n c k : Nat) (h : k ≤ n) (h2 : n ≤ c) (w : World) : (Instr.sliceAt 31 (.slice A n c) none (some (.int .i64 (k : Nat))) none).run Try.prog w = .ok (.slice A k c) w := by
  have hs : (Try.prog.elem 31) = 5 := by simp [Program.elem, Try.underlying31]
  obtain ⟨i0, hi0, _⟩ := info_parts u8_info
  rw [run_sliceAt_slice w 31 _ _ _ _ (by rw [hs]; exact Try.underlying31)]
  exact run_cut_any 31 5 Try.underlying31 i0 hi0 A n c k (by omega) w
theorem quo_4 (n : Nat) (p q : Operand) (h : n ≤ 140737488351232) (w : World) : (do eqGuard .quo 3 p q (.int .i64 (n : Int)) (.int .i64 4); binOp .quo 3 (.int .i64 (n : Int)) (.int .i64 4) : Sem Value).run Try.prog w = .ok (.int .i64 ((n / 4 : Nat) : Int)) w := by
  have e : (n : Int).tdiv 4 = ((n / 4 : Nat) : Int) := by rw [Int.tdiv_eq_ediv_of_nonneg (by omega)]; rfl
  have e2 : IntKind.i64.wrap ((n : Int) / 4) = (n : Int) / 4 := by rw [IntKind.wrap_i64]; omega
  simp only [eqGuard, go_sem]
  simp [go_sem, e, e2]
theorem mul_4n (n : Nat) (p q : Operand) (h : n ≤ 140737488351232) (w : World) : (do eqGuard .mul 3 p q (.int .i64 ((n / 4 : Nat) : Int)) (.int .i64 4); binOp .mul 3 (.int .i64 ((n / 4 : Nat) : Int)) (.int .i64 4) : Sem Value).run Try.prog w = .ok (.int .i64 ((n / 4 * 4 : Nat) : Int)) w := by
  have e2 : IntKind.i64.wrap (((n / 4 : Nat) : Int) * 4) = ((n / 4 * 4 : Nat) : Int) := by rw [IntKind.wrap_i64]; omega
  generalize n / 4 = m at *
  simp [eqGuard, go_sem, e2]
theorem conv_8 (m : Nat) : ∃ y : UInt8, ∀ w : World, (convert 3 5 (.int .i64 (m : Int))).run Try.prog w = .ok (.int .u8 (y.toNat : Int)) w := by
  have h := IntKind.wrap_u8 (m : Int)
  refine ⟨UInt8.ofNat (IntKind.u8.wrap (m : Int)).toNat, fun w => ?_⟩
  have e : ((UInt8.ofNat (IntKind.u8.wrap (m : Int)).toNat).toNat : Int) = IntKind.u8.wrap (m : Int) := by rw [UInt8.toNat_ofNat']; omega
  rw [e]
  simp [go_sem]
theorem flat_ge {α : Type} (f : α → List UInt8) (k : Nat) (hk : 1 ≤ k) (h : ∀ x, (f x).length = k) (l : List α) : l.length ≤ (l.flatMap f).length := by
  rw [flat_len f k h]
  exact Nat.le_mul_of_pos_left _ hk
theorem rep_small {r : Rep} (h : RepOk r) : r.tups.length ≤ 900000 ∧ r.abouts.length ≤ 900000 ∧ r.nums.length ≤ 900000 ∧ r.body.length ≤ 900000 := by
  obtain ⟨hk, hf, hb⟩ := Rep.err_zero h.err
  have hs := h.small
  have nf := bare_nf hb
  rw [Rep.one_len] at hs
  have hz : r.kind ≠ 1 → r.kind ≠ 2 → r.tups.length = 0 := fun a b => by rw [nf.2.2.1 a b]; rfl
  have hz2 : r.kind ≠ 4 → r.kind ≠ 5 → r.abouts.length = 0 := fun a b => by rw [nf.2.2.2.1 a b]; rfl
  have hz3 : r.kind ≠ 4 → r.nums.length = 0 := fun a => by rw [nf.2.2.2.2.1 a]; rfl
  have hz4 : r.kind ≠ 6 → r.body.length = 0 := fun a => by rw [(nf.2.2.2.2.2.2 a).2.2]; rfl
  have ht : r.kind = 1 ∨ r.kind = 2 → r.tups.length ≤ 60 := fun a => by
    have := flat_ge Tup.bytes 8 (by omega) Tup.bytes_len r.tups
    unfold Rep.tail at hs
    rw [if_pos a] at hs
    simp only [List.length_append, be_len] at hs
    omega
  have h5 : r.kind = 5 → r.abouts.length ≤ 60 := fun a => by
    have := flat_ge (fun x : Nat => be x 4) 4 (by omega) (fun x => be_len 4 x) r.abouts
    unfold Rep.tail at hs
    rw [if_neg (by omega), if_neg (by omega), if_neg (by omega), if_pos a] at hs
    simp only [List.length_append, be_len] at hs
    omega
  have h4 : r.kind = 4 → r.abouts.length ≤ 16 ∧ r.nums.length ≤ 16 := fun a => by
    obtain ⟨f1, f2, f3, _⟩ := Rep.fits_4 a hf
    omega
  have h6 : r.kind = 6 → r.body.length ≤ 60 := fun a => by
    unfold Rep.tail at hs
    rw [if_neg (by omega), if_neg (by omega), if_neg (by omega), if_neg (by omega)] at hs
    omega
  refine ⟨?_, ?_, ?_, ?_⟩
  · by_cases a : r.kind = 1 ∨ r.kind = 2
    · have := ht a; omega
    · have := hz (by omega) (by omega); omega
  · by_cases a : r.kind = 4
    · have := h4 a; omega
    · by_cases b : r.kind = 5
      · have := h5 b; omega
      · have := hz2 a b; omega
  · by_cases a : r.kind = 4
    · have := h4 a; omega
    · have := hz3 a; omega
  · by_cases a : r.kind = 6
    · have := h6 a; omega
    · have := hz4 a; omega
end Go.Proofs.Ytnchgmemajmkjaa.RP
