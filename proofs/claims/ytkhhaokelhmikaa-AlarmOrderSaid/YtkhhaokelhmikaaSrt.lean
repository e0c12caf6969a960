/- A row of structs that the call owns, sorted by the library's slices.SortFunc: between the two vocabularies (own rows; the sort's rows). No function of the program. -/
import Derived.Test.YtkhhaokelhmikaaRx
import Derived.Shelf.SlSortCmp.WholeK
namespace Go.Proofs.Ytkhhaokelhmikaa
open Go.RowKit Go.Sort Go.Proofs
set_option linter.unusedVariables false
set_option linter.unusedSimpArgs false
set_option maxRecDepth 20000

section
variable {α : Type} [Inhabited α] {enc : α → List Value} {k : Nat}
theorem flatK_list (hk : ∀ x, (enc x).length = k) (L : List α) : (flatK enc k L.toArray).toList = L.flatMap enc := by
  apply List.ext_getElem?
  intro t
  by_cases ht : t < L.length * k
  · have h0 : 0 < k := by
      rcases Nat.eq_zero_or_pos k with h | h
      · subst h; simp at ht
      · exact h
    have hq : t / k < L.length := (Nat.div_lt_iff_lt_mul h0).2 ht
    have hm : t % k < k := Nat.mod_lt _ h0
    have hfg := flat_get (f := enc) (k := k) hk L (t / k) (t % k) hq hm
    have hd : t / k * k + t % k = t := by rw [Nat.mul_comm]; exact Nat.div_add_mod t k
    rw [hd] at hfg
    rw [hfg]
    have hg := get_flatK enc k L.toArray t (by simpa using ht)
    have hsz : t < (flatK enc k L.toArray).size := by rw [size_flatK]; simpa using ht
    rw [Array.getElem?_toList, Array.getElem?_eq_getElem hsz]
    rw [getElem!_pos _ t hsz] at hg
    rw [hg]
    have hq' : t / k < L.toArray.size := by simpa using hq
    rw [getElem!_pos L.toArray (t / k) hq']
    have hme : t % k < (enc L.toArray[t / k]).length := by rw [hk]; exact hm
    rw [getElem!_pos (enc L.toArray[t / k]) (t % k) hme]
    have hme2 : t % k < (enc L[t / k]).length := by rw [hk]; exact hm
    rw [List.getElem?_eq_getElem hme2]
    simp
  · rw [List.getElem?_eq_none (by simp; omega), List.getElem?_eq_none (by rw [flat_length hk]; omega)]
theorem holdsK_own {w : World} {g : Nat} {e : TypeId} {cur : Array Value} {L : List α} (hk : ∀ x, (enc x).length = k) (hb : w.heap[g]? = some (.cells cur e (0, 0))) (ht : cur.toList.take (L.length * k) = L.flatMap enc) : HoldsK enc k w g 0 L.toArray := by
  intro j hj
  rw [size_flatK] at hj
  have hj' : j < L.length * k := by simpa using hj
  refine ⟨?_, by simp [World.frozen?, hb]⟩
  have h1 : (cur.toList.take (L.length * k))[j]? = (L.flatMap enc)[j]? := by rw [ht]
  rw [List.getElem?_take_of_lt hj'] at h1
  simp only [World.cell?, hb, Nat.zero_add]
  simp only [Option.isSome_none, Bool.false_eq_true, if_false]
  have hsz : j < (flatK enc k L.toArray).size := by rw [size_flatK]; exact hj
  rw [getElem!_pos _ j hsz, ← Array.getElem?_toList, h1, ← flatK_list hk, Array.getElem?_toList, Array.getElem?_eq_getElem hsz]
  rfl
theorem heap_sortedK {w : World} {g n : Nat} {os : Array Obj} {cur : Array Value} {e : TypeId} {fr : Nat × Nat} (d : Array α) (hb : w.heap[g]? = some (.cells cur e fr)) :
    (sortWorldK enc k w g 0 n d os).heap[g]? = some (.cells (putCells id 0 (flatK enc k d) cur) e fr) := by
  have hg : g < w.heap.size := (Array.getElem?_eq_some_iff.1 hb).1
  unfold sortWorldK putRowK
  rw [heap_grow_old _ _ (by simpa using hg)]
  simp [putRow, mapBlock, Sort.ahead, Array.getElem?_modify, hb, onCells]
theorem grownBy_sortedK {w : World} {g n : Nat} {os : Array Obj} (d : Array α) : w.grownBy (sortWorldK enc k w g 0 n d os) (some g) := by
  unfold sortWorldK putRowK
  refine ⟨rfl, rfl, rfl, by simp, fun i hi hne => ?_⟩
  rw [heap_grow_old _ _ (by simpa using hi)]
  have : g ≠ i := fun e => hne (by rw [e])
  simp [putRow, mapBlock, Sort.ahead, Array.getElem?_modify, this]
theorem take_putCellsK (hk : ∀ x, (enc x).length = k) (cur : Array Value) (R : List α) (h : R.length * k ≤ cur.size) : (putCells id 0 (flatK enc k R.toArray) cur).toList.take (R.length * k) = R.flatMap enc := by
  apply List.ext_getElem?
  intro j
  by_cases hj : j < R.length * k
  · rw [List.getElem?_take_of_lt hj, Array.getElem?_toList, ← flatK_list hk, Array.getElem?_toList]
    have hsz : j < (flatK enc k R.toArray).size := by rw [size_flatK]; simpa using hj
    rw [Array.getElem?_eq_getElem hsz]
    simp only [putCells, Array.getElem?_mapIdx, Array.getElem?_eq_getElem (show j < cur.size by omega), Option.map_some, Nat.zero_le, true_and, Nat.zero_add, Nat.sub_zero, id]
    rw [if_pos hsz, getElem!_pos _ j hsz]
  · rw [List.getElem?_take_eq_none (by omega), List.getElem?_eq_none (by rw [flat_length hk]; omega)]
/-- Behind the sort the same slice owns what the row then holds. -/
theorem ownsRow_sortedK {w : World} {base g cap n : Nat} {e : TypeId} {os : Array Obj} {cur : Array Value} {L R : List α} (hk : ∀ x, (enc x).length = k) (hl : R.length = L.length) (hbase : base ≤ g) (hb : w.heap[g]? = some (.cells cur e (0, 0)))
    (h1 : L.length ≤ cap) (h2 : cap ≤ maxLen) (h3 : cur.size = cap * k) :
    (sortWorldK enc k w g 0 n R.toArray os).ownsRow base e k (.slice (some ⟨g, 0, none⟩) L.length cap) L.length (R.flatMap enc) :=
  ⟨by rw [flat_length hk, hl], .inr ⟨g, cap, _, rfl, hbase, heap_sortedK _ hb, h1, h2, by simp [putCells, h3], by
    rw [← hl]
    exact take_putCellsK hk cur R (by rw [h3, hl]; exact Nat.mul_le_mul_right k h1)⟩⟩
end
end Go.Proofs.Ytkhhaokelhmikaa
