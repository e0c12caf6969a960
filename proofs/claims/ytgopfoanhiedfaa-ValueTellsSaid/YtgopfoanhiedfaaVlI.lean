/- The law's layers: what goes ahead of the walk. -/
import Derived.Test.YtgopfoanhiedfaaVlH
namespace Go.Proofs.Ytgopfoanhiedfaa
open Go.RowKit
set_option linter.unusedVariables false
set_option linter.unusedSimpArgs false
set_option maxRecDepth 20000

/-- Layer of a string and two values of int64. -/
theorem layer3_i64 (A : Option Addr) (c : Nat) (s : ByteArray) (n m : Int) (w : World) (hs : s.size ≤ 140737488355328) (hn : I64 n) (hm : I64 m)
    (h : RX w w.heap.size A 3 c 1 [.iface 9 (.string s), .iface 2 (.int .i64 n), .iface 2 (.int .i64 m)]) : Calls Try.prog 9 #[.slice A 3 c] w (Ans (.tuple #[(l3 s n m).val, .int .i64 (l3E s n m)]) w) := by
  by_cases hS : inS n = true
  · exact layer3_yes A c s _ _ n m true true w hs hn hm (int_i64 n) (int_i64 m) rfl rfl hS h
  · have e1 : l3 s n m = zL := if_neg hS
    have e2 : l3E s n m = 1 := if_neg hS
    rw [e1, e2]
    refine layer3_no A c s _ _ n m true true w hs hn hm (int_i64 n) (int_i64 m) (.inr (.inr ?_)) h
    simp only [inS, decide_eq_true_eq] at hS
    omega
theorem l3_lay (x : Lay) (hx : x.In) : l3 x.rid (x.ssrc : Int) x.height = rgt x ∧ l3E x.rid (x.ssrc : Int) x.height = rgE x := by
  have h : inS (x.ssrc : Int) = true := by
    have := hx.ssrc
    simp only [inS, decide_eq_true_eq]
    omega
  constructor
  · simp [l3, h]
  · simp [l3E, h]
/-- A literal of values reads as them. -/
theorem rx_lit (w : World) (g n : Nat) (t : TypeId) (l : List Value) (cs : Array Value) (hg : g = w.heap.size) (hn : l.length = n) (hc : cs = l.toArray) : RX (w.alloc (.cells cs t)) (w.alloc (.cells cs t)).heap.size (some ⟨g, 0, none⟩) n n 1 l := by
  subst hg hc
  refine ⟨by omega, Nat.le_refl _, fun _ => ⟨w.heap.size, 0, rfl, by simp, fun j v hj => ?_⟩⟩
  have h : Blk (w.alloc (.cells l.toArray t)) w.heap.size t l.toArray := Blk.new _ _ _
  rw [Nat.zero_add, h.cell j, ← hj]
  simp
/-! ### What the law asks -/
/-- Why not, after the many, and the first q of the two others. -/
def whyN (E F H : Int) : Nat → Int
  | 0 => E
  | 1 => if E = 0 then F else E
  | _ => if E = 0 then (if F = 0 then H else F) else E
def whyZ (E F H : Int) (k : Nat) : Int := if whyN E F H 2 = 0 then (if k + 2 ≤ 3 then 0 else 3) else whyN E F H 2
/-- Why not, after the first q of the many. -/
def whyT (l : List Lay) (q : Nat) : Int := if (l.take q).all okL = true then 0 else 12
theorem whyT_zero (l : List Lay) : whyT l 0 = 0 := by simp [whyT]
theorem whyT_or (l : List Lay) (q : Nat) : whyT l q = 0 ∨ whyT l q = 12 := by
  unfold whyT
  split
  · exact .inl rfl
  · exact .inr rfl
theorem whyT_yes {l : List Lay} {q : Nat} (hq : q < l.length) (h : okL l[q] = true) : whyT l (q + 1) = whyT l q := by
  unfold whyT
  rw [List.take_succ_eq_append_getElem hq, List.all_append]
  simp [h]
theorem whyT_no {l : List Lay} {q : Nat} (hq : q < l.length) (h : okL l[q] = false) : whyT l (q + 1) = 12 := by
  unfold whyT
  rw [List.take_succ_eq_append_getElem hq, List.all_append]
  simp [h]
theorem whyT_all (l : List Lay) : whyT l l.length = eachE l := by
  unfold whyT eachE
  rw [List.take_length]
theorem whyN_one (E F H : Int) : whyN E F H 1 = if whyN E F H 0 = 0 then F else whyN E F H 0 := rfl
theorem whyN_two (E F H : Int) : whyN E F H 2 = if whyN E F H 1 = 0 then H else whyN E F H 1 := by
  show (if E = 0 then (if F = 0 then H else F) else E) = if (if E = 0 then F else E) = 0 then H else (if E = 0 then F else E)
  by_cases hE : E = 0 <;> simp [hE]
theorem res_of (many : List Lay) (Y X : Lay) (F H : Int) :
    resL [] [⟨1, eachL many, eachE many⟩, ⟨3, [Y], F⟩, ⟨1, [X], H⟩] = if whyZ (eachE many) F H many.length = 0 then (many ++ [Y, X], 0) else ([], whyZ (eachE many) F H many.length) := by
  unfold eachE eachL
  by_cases ha : many.all okL = true
  · by_cases hF : F = 0
    · subst hF
      by_cases hH : H = 0
      · subst hH
        by_cases h1 : many.length ≤ 1
        · simp [resL, whyZ, whyN, ha, h1, show many.length ≤ 3 by omega, show many.length + 1 ≤ 3 by omega, show many.length + 1 + 1 ≤ 3 by omega, show many.length + 2 ≤ 3 by omega]
        · by_cases h2 : many.length ≤ 2
          · simp [resL, whyZ, whyN, ha, h1, show many.length ≤ 3 by omega, show many.length + 1 ≤ 3 by omega, show ¬ many.length + 1 + 1 ≤ 3 by omega, show ¬ many.length + 2 ≤ 3 by omega]
          · by_cases h3 : many.length ≤ 3
            · simp [resL, whyZ, whyN, ha, h1, h2, h3, show ¬ many.length + 1 ≤ 3 by omega, show ¬ many.length + 1 + 1 ≤ 3 by omega, show ¬ many.length + 2 ≤ 3 by omega]
            · simp [resL, whyZ, whyN, ha, h1, h2, h3, show ¬ many.length + 1 ≤ 3 by omega, show ¬ many.length + 1 + 1 ≤ 3 by omega, show ¬ many.length + 2 ≤ 3 by omega]
      · simp [resL, whyZ, whyN, ha, hH]
    · simp [resL, whyZ, whyN, ha, hF]
  · simp [resL, whyZ, whyN, ha]
end Go.Proofs.Ytgopfoanhiedfaa
