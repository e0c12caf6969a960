/- Rows of values, item by item. -/
import Derived.Test.YtgopfoanhiedfaaVlI
namespace Go.Proofs.Ytgopfoanhiedfaa
open Go.RowKit
set_option linter.unusedVariables false
set_option linter.unusedSimpArgs false
set_option maxRecDepth 20000

theorem items_nil (w : World) (A : Option Addr) (c : Nat) : Items w A 0 c [] := rfl
theorem items_lays {w : World} {A : Option Addr} {n c : Nat} {A' : Option Addr} {k c' : Nat} {l : List Lay} {rest : List Value} {r : List Itm} (h : RX w w.heap.size A n c 1 (.iface 29 (.slice A' k c') :: rest)) (hr : RL w w.heap.size A' k c' l) (hk : k ≤ 1000)
    (hi : Items w (cutA A c 1) (n - 1) (c - 1) r) : Items w A n c (⟨1, eachL l, eachE l⟩ :: r) := by
  have hl := h.1
  have hc := h.2.1
  simp only [List.length_cons, Nat.mul_one] at hl
  have h1 := hr.1
  refine ⟨⟨by omega, hc, by show 0 < 1; omega, by show 1 ≤ n; omega, ?_, eachL_in hr.2.1⟩, fun W hW => next_lays A n c _ A' k c' l W (by omega) (h.on hW) rfl (hr.on hW) hk, hi⟩
  show (eachL l).length ≤ 1000
  unfold eachL
  split
  · omega
  · exact Nat.zero_le _
theorem items_str {w : World} {A : Option Addr} {n c : Nat} {s : ByteArray} {rest : List Value} {r : List Itm} (k : Nat) (hk : k = min 3 n) {y : Lay} {er : Int} (hy : y.In) (h : RX w w.heap.size A n c 1 (.iface 9 (.string s) :: rest))
    (hL : ∀ W, RX W W.heap.size A k c 1 ((.iface 9 (.string s) :: rest).take k) → Calls Try.prog 9 #[.slice A k c] W (Ans (.tuple #[y.val, .int .i64 er]) W))
    (hi : Items w (cutA A c k) (n - k) (c - k) r) : Items w A n c (⟨k, [y], er⟩ :: r) := by
  have hl := h.1
  have hc := h.2.1
  simp only [List.length_cons, Nat.mul_one] at hl
  exact ⟨⟨by omega, hc, by show 0 < k; omega, by show k ≤ n; omega, by show 1 ≤ 1000; omega, by simpa using hy⟩, fun W hW => next_str A n c k _ s y er W hy (by omega) hk (h.on hW) rfl (hL W ((h.on hW).take1 k (by omega))), hi⟩
theorem items_lay {w : World} {A : Option Addr} {n c : Nat} {x : Lay} {rest : List Value} {r : List Itm} (hx : x.In) (h : RX w w.heap.size A n c 1 (.iface 28 x.val :: rest))
    (hi : Items w (cutA A c 1) (n - 1) (c - 1) r) : Items w A n c (⟨1, [rgt x], rgE x⟩ :: r) := by
  have hl := h.1
  have hc := h.2.1
  simp only [List.length_cons, Nat.mul_one] at hl
  exact ⟨⟨by omega, hc, by show 0 < 1; omega, by show 1 ≤ n; omega, by show 1 ≤ 1000; omega, by simpa using rgt_in hx⟩, fun W hW => next_one A n c _ (.iface 28 x.val) (rgt x) (rgE x) W (rgt_in hx) (by omega) (h.on hW) rfl (NoLays.of _ _ (by decide)) (as_no _ _ 9 (by simp [askedT]) (by decide)) (layer_one A c x W hx ((h.on hW).take1 1 (by omega))), hi⟩
/-- A value that tells no layer. -/
theorem items_not {w : World} {A : Option Addr} {n c : Nat} {u : TypeId} {v : Value} {rest : List Value} {r : List Itm} (h : RX w w.heap.size A n c 1 (.iface u v :: rest)) (hu : u ≠ 29 ∧ u ≠ 9 ∧ u ≠ 28)
    (hi : Items w (cutA A c 1) (n - 1) (c - 1) r) : Items w A n c (⟨1, [zL], 1⟩ :: r) := by
  have hl := h.1
  have hc := h.2.1
  simp only [List.length_cons, Nat.mul_one] at hl
  exact ⟨⟨by omega, hc, by show 0 < 1; omega, by show 1 ≤ n; omega, by show 1 ≤ 1000; omega, by simpa using zL_in⟩, fun W hW => next_one A n c _ (.iface u v) zL 1 W zL_in (by omega) (h.on hW) rfl (NoLays.of _ _ hu.1) (as_no _ _ 9 (by simp [askedT]) hu.2.1) (layer_not A c (.iface u v) W (NoLay.of _ _ hu.2.2) ((h.on hW).take1 1 (by omega))), hi⟩
/-- The law's five values. -/
theorem items_five {w : World} {A : Option Addr} {c : Nat} {A' : Option Addr} {k c' : Nat} {many : List Lay} {s : ByteArray} {n m : Int} {x : Lay} (hs : s.size ≤ 140737488355328) (hn : I64 n) (hm : I64 m) (hx : x.In) (hk : k ≤ 1000) (hr : RL w w.heap.size A' k c' many)
    (h : RX w w.heap.size A 5 c 1 [.iface 29 (.slice A' k c'), .iface 9 (.string s), .iface 2 (.int .i64 n), .iface 2 (.int .i64 m), .iface 28 x.val]) :
    Items w A 5 c [⟨1, eachL many, eachE many⟩, ⟨3, [l3 s n m], l3E s n m⟩, ⟨1, [rgt x], rgE x⟩] := by
  refine items_lays h hr hk ?_
  have h2 := h.drop1 1 (by omega)
  refine items_str 3 rfl (l3_in hs hm) h2 (fun W hW => layer3_i64 _ _ s n m W hs hn hm hW) ?_
  have h3 := h2.drop1 3 (by omega)
  exact items_lay hx h3 (items_nil _ _ _)
end Go.Proofs.Ytgopfoanhiedfaa
