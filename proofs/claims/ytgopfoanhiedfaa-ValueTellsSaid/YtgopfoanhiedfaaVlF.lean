/- value.next and value.Layers: all layers that a row of values is, or why not. -/
import Derived.Test.YtgopfoanhiedfaaVlE
namespace Go.Proofs.Ytgopfoanhiedfaa
open Go.RowKit
set_option linter.unusedVariables false
set_option linter.unusedSimpArgs false
set_option maxRecDepth 20000

theorem any_info : (Try.prog.info? 20).map (fun i => (i.zero, i.size, i.bytes)) = some (some .nilIface, 1, 16) := by kernel_rfl
theorem run_toV (A : Option Addr) (n c k : Nat) (hk : k ≤ c) (w : World) :
    (Instr.slice 44 (.slice A n c) none (some (.int .i64 (k : Int))) none).run Try.prog w = .ok (.slice A k c) w := by
  have e : (if c = 0 then A else A.map (·.add 0)) = A := by
    split
    · rfl
    · cases A with
      | none => rfl
      | some a => simp [Addr.add]
  have hs : (Try.prog.elem 44) = 20 := by simp [Program.elem, Try.underlying44]
  have h3 := run_slice_h (P := Try.prog) w 44 A n c (by rw [hs]; exact Try.underlying44) .i64 (k : Nat) (by omega) (by omega)
  rw [hs] at h3
  obtain ⟨i0, hi0, hz0, hz1, hz2⟩ := info_parts any_info
  rw [h3]
  simp [sizeOf, typeInfo, hi0, hz1, sliced, Result.andThen, e]
theorem run_toI (A : Option Addr) (n c k : Nat) (i : Int) (hi : i = (k : Int)) (hk : k ≤ c) (w : World) :
    (Instr.slice 44 (.slice A n c) none (some (.int .i64 i)) none).run Try.prog w = .ok (.slice A k c) w := by
  subst hi
  exact run_toV A n c k hk w
theorem run_fromV (A : Option Addr) (n c k : Nat) (hk : k ≤ n) (hn : n ≤ c) (w : World) :
    (Instr.slice 44 (.slice A n c) (some (.int .i64 (k : Int))) none none).run Try.prog w = .ok (.slice (cutA A c k) (n - k) (c - k)) w := by
  have hs : (Try.prog.elem 44) = 20 := by simp [Program.elem, Try.underlying44]
  have h3 := run_slice_l (P := Try.prog) w 44 A n c (by rw [hs]; exact Try.underlying44) .i64 (k : Nat) (by omega) (by omega)
  rw [hs] at h3
  obtain ⟨i0, hi0, hz0, hz1, hz2⟩ := info_parts any_info
  rw [h3]
  simp [sizeOf, typeInfo, hi0, hz1, sliced, Result.andThen, cutA]
/-- A row of values cut off behind its first ones. -/
theorem RX.take1 {w : World} {B n c : Nat} {A : Option Addr} {vs : List Value} (h : RX w B A n c 1 vs) (k : Nat) (hk : k ≤ n) : RX w B A k c 1 (vs.take k) := by
  have hl := h.1
  have hc := h.2.1
  refine ⟨by rw [List.length_take]; omega, by omega, fun hp => ?_⟩
  obtain ⟨b, off, rfl, hb, hcell⟩ := h.2.2 (by omega)
  refine ⟨b, off, rfl, hb, fun j v hj => hcell j v ?_⟩
  rw [List.getElem?_take] at hj
  split at hj
  · exact hj
  · cases hj
theorem RX.drop1 {w : World} {B n c : Nat} {A : Option Addr} {vs : List Value} (h : RX w B A n c 1 vs) (k : Nat) (hk : k ≤ n) : RX w B (cutA A c k) (n - k) (c - k) 1 (vs.drop k) := by
  have hl := h.1
  have hc := h.2.1
  refine ⟨by rw [List.length_drop]; omega, by omega, fun hp => ?_⟩
  obtain ⟨b, off, rfl, hb, hcell⟩ := h.2.2 (by omega)
  unfold cutA
  rw [if_neg (by omega)]
  refine ⟨b, off + k, ?_, hb, fun j v hj => ?_⟩
  · simp only [Option.map_some, Addr.add]
    split <;> simp_all
  · rw [List.getElem?_drop] at hj
    rw [Nat.add_assoc]
    exact hcell (k + j) v hj
/-! ### next -/
/-- What the first values of a row tell: how many they are, which layers, why not. -/
structure Itm where
  k : Nat
  ls : List Lay
  er : Int
def NextOut (w : World) (it : Itm) (e : Ending) (w' : World) : Prop :=
  ∃ A c, e = .returned (.tuple #[.slice A it.ls.length c, .int .i64 (it.k : Int), .int .i64 it.er]) ∧ RL w' w'.heap.size A it.ls.length c it.ls ∧ Below w.heap.size w w'
theorem next_lays (A : Option Addr) (n c : Nat) (vs : List Value) (A' : Option Addr) (n' c' : Nat) (l : List Lay) (w : World) (hn : 0 < n) (h : RX w w.heap.size A n c 1 vs) (hv : vs[0]? = some (.iface 29 (.slice A' n' c')))
    (hr : RL w w.heap.size A' n' c' l) (hn' : n' ≤ 1000) : Calls Try.prog 17 #[.slice A n c] w (NextOut w ⟨1, eachL l, eachE l⟩) := by
  obtain ⟨b, off, rfl, hlt, hcs⟩ := h.any hn
  have hc0 := hcs 0 _ hv
  rw [Nat.add_zero] at hc0
  have ha := as_yes_lays (.slice A' n' c')
  unfold AsT at ha
  have he := each_any A' n' c' l w hr hn'
  clear hcs h hv hr
  go_enter Try.func17, Try.ntmps17
  go_wp2_with fail
  refine he.mono ?_
  rintro e w1 ⟨A1, c1, rfl, r1, b1⟩
  go_wp2_with fail
  refine bodyPost_ret (results_tmp3 rfl _ _ _) rfl ?_
  exact ⟨A1, c1, rfl, r1, b1⟩
/-- A value that is no row of layers. -/
def NoLays (v : Value) : Prop := AsT v 29 (.slice none 0 0) false
theorem NoLays.of (u : TypeId) (v : Value) (h : u ≠ 29) : NoLays (.iface u v) := as_no u v 29 (by simp [askedT]) h
set_option maxHeartbeats 1000000 in
theorem next_one (A : Option Addr) (n c : Nat) (vs : List Value) (v : Value) (y : Lay) (er : Int) (w : World) (hy : y.In) (hn : 0 < n) (h : RX w w.heap.size A n c 1 vs) (hv : vs[0]? = some v)
    (h1 : NoLays v) (h2 : AsT v 9 (.string ⟨#[]⟩) false)
    (hL : Calls Try.prog 9 #[.slice A 1 c] w (Ans (.tuple #[y.val, .int .i64 er]) w)) : Calls Try.prog 17 #[.slice A n c] w (NextOut w ⟨1, [y], er⟩) := by
  obtain ⟨b, off, rfl, hlt, hcs⟩ := h.any hn
  have hc0 := hcs 0 _ hv
  rw [Nat.add_zero] at hc0
  have hcut := fun W => run_toI (some ⟨b, off, none⟩) n c 1 1 rfl (by have := h.2.1; omega) W
  unfold NoLays AsT at h1
  unfold AsT at h2
  clear hcs h hv
  obtain ⟨ys, yn, yh⟩ := y
  go_enter Try.func17, Try.ntmps17
  go_wp2_with fail
  refine hL.mono ?_
  rintro e w1 ⟨rfl, b1⟩
  have s1 := one_rl_at (w1.alloc (.cells #[.string ys, .int .u32 (yn : Int), .int .i64 yh] 28)) (w1.heap.size + 1) (by simp) ⟨ys, yn, yh⟩ hy
  have bY := (b1.alloc b1.size (.cells #[.string ys, .int .u32 (yn : Int), .int .i64 yh] 28))
  have bZ := (bY.alloc bY.size (.cells #[.string ys, .int .u32 (yn : Int), .int .i64 yh] 28))
  clear b1 bY
  go_wp2_with fail
  refine bodyPost_ret (results_tmp3 rfl _ _ _) rfl ?_
  exact ⟨some ⟨w1.heap.size + 1, 0, none⟩, 1, rfl, s1.more (by simp), bZ⟩
set_option maxHeartbeats 1000000 in
theorem next_str (A : Option Addr) (n c k : Nat) (vs : List Value) (s : ByteArray) (y : Lay) (er : Int) (w : World) (hy : y.In) (hn : 0 < n) (hk : k = min 3 n) (h : RX w w.heap.size A n c 1 vs) (hv : vs[0]? = some (.iface 9 (.string s)))
    (hL : Calls Try.prog 9 #[.slice A k c] w (Ans (.tuple #[y.val, .int .i64 er]) w)) : Calls Try.prog 17 #[.slice A n c] w (NextOut w ⟨k, [y], er⟩) := by
  obtain ⟨b, off, rfl, hlt, hcs⟩ := h.any hn
  have hc0 := hcs 0 _ hv
  rw [Nat.add_zero] at hc0
  have hnc := h.2.1
  have h1 : NoLays (.iface 9 (.string s)) := NoLays.of _ _ (by decide)
  have h2 := as_yes_str (.string s)
  unfold NoLays AsT at h1
  unfold AsT at h2
  clear hcs h hv
  obtain ⟨ys, yn, yh⟩ := y
  have hcut := fun W => run_toI (some ⟨b, off, none⟩) n c k (k : Int) rfl (by omega) W
  have hkc : (k : Int) ≤ (c : Int) := by omega
  have hmin : min (3 : Int) (n : Int) = (k : Int) := by omega
  clear hnc hk
  go_enter Try.func17, Try.ntmps17
  go_wp2_with fail
  refine hL.mono ?_
  rintro e w1 ⟨rfl, b1⟩
  have s1 := one_rl_at (w1.alloc (.cells #[.string ys, .int .u32 (yn : Int), .int .i64 yh] 28)) (w1.heap.size + 1) (by simp) ⟨ys, yn, yh⟩ hy
  have bY := (b1.alloc b1.size (.cells #[.string ys, .int .u32 (yn : Int), .int .i64 yh] 28))
  have bZ := (bY.alloc bY.size (.cells #[.string ys, .int .u32 (yn : Int), .int .i64 yh] 28))
  clear b1 bY
  go_wp2_with fail
  refine bodyPost_ret (results_tmp3 rfl _ _ _) rfl ?_
  exact ⟨some ⟨w1.heap.size + 1, 0, none⟩, 1, rfl, s1.more (by simp), bZ⟩
end Go.Proofs.Ytgopfoanhiedfaa
