/- What one can take, in plain words: tuples by owner with their times, the limit. No function of the program. -/
import Derived.Test.YtfijlgkgbbemnaaBdF
import Derived.Test.YtfijlgkgbbemnaaCkS
import Derived.Test.YtfijlgkgbbemnaaNr
namespace Go.Proofs.Ytfijlgkgbbemnaa
open Go.RowKit
set_option linter.unusedVariables false
set_option linter.unusedSimpArgs false
set_option maxRecDepth 20000

/-- A tuple and until when it holds. -/
structure Ent where
  t : Tup
  u : Int
structure Ent.In (e : Ent) : Prop where
  t : e.t.In
  u : I64 e.u
abbrev Ents := List Ent
def Ents.T (E : Ents) : List Tup := E.map Ent.t
def Ents.U (E : Ents) : List Int := E.map Ent.u
theorem Ents.T_len (E : Ents) : E.T.length = E.length := List.length_map ..
theorem Ents.U_len (E : Ents) : E.U.length = E.length := List.length_map ..
/-- Where an owner's place is. -/
def posE : Ents → Nat → Nat
  | [], _ => 0
  | x :: r, o => if x.t.owner < o then posE r o + 1 else 0
theorem posE_le : ∀ (E : Ents) (o : Nat), posE E o ≤ E.length
  | [], _ => Nat.le_refl _
  | x :: r, o => by
    have := posE_le r o
    unfold posE
    split <;> simp <;> omega
theorem posE_before : ∀ (E : Ents) (o k : Nat) (h : k < E.length), k < posE E o → E[k].t.owner < o
  | [], _, k, h, _ => absurd h (by simp)
  | x :: r, o, 0, h, hk => by
    unfold posE at hk
    split at hk
    · assumption
    · omega
  | x :: r, o, k + 1, h, hk => by
    unfold posE at hk
    split at hk
    · exact posE_before r o k (by simpa using h) (by omega)
    · omega
theorem posE_at : ∀ (E : Ents) (o : Nat) (h : posE E o < E.length), ¬ E[posE E o].t.owner < o
  | [], _, h => absurd h (by simp)
  | x :: r, o, h => by
    by_cases hx : x.t.owner < o
    · have e : posE (x :: r) o = posE r o + 1 := if_pos hx
      have h2 : posE r o < r.length := by rw [e] at h; simpa using h
      have := posE_at r o h2
      simpa [e] using this
    · have e : posE (x :: r) o = 0 := if_neg hx
      simpa [e] using hx
/-- It is the place where the count stops. -/
theorem posE_stop (E : Ents) (o q : Nat) (hq : q ≤ E.length) (h1 : ∀ k (h : k < E.length), k < q → E[k].t.owner < o) (h2 : ∀ (h : q < E.length), ¬ E[q].t.owner < o) : posE E o = q := by
  have hp := posE_le E o
  rcases Nat.lt_trichotomy (posE E o) q with h | h | h
  · exact absurd (h1 _ (by omega) h) (posE_at E o (by omega))
  · exact h
  · exact absurd (posE_before E o q (by omega) h) (h2 (by omega))
/-- The owner has one. -/
def hereE (E : Ents) (o : Nat) : Bool := match E[posE E o]? with
  | some x => x.t.owner == o
  | none => false
theorem hereE_yes {E : Ents} {o : Nat} (h : posE E o < E.length) (he : E[posE E o].t.owner = o) : hereE E o = true := by
  unfold hereE
  rw [List.getElem?_eq_getElem h]
  simpa using he
theorem hereE_no {E : Ents} {o : Nat} (h : ∀ (h : posE E o < E.length), E[posE E o].t.owner ≠ o) : hereE E o = false := by
  unfold hereE
  rcases Nat.lt_or_ge (posE E o) E.length with hl | hl
  · rw [List.getElem?_eq_getElem hl]
    simpa using h hl
  · rw [List.getElem?_eq_none hl]
theorem hereE_get {E : Ents} {o : Nat} (h : hereE E o = true) : ∃ hl : posE E o < E.length, E[posE E o].t.owner = o := by
  unfold hereE at h
  rcases Nat.lt_or_ge (posE E o) E.length with hl | hl
  · rw [List.getElem?_eq_getElem hl] at h
    exact ⟨hl, by simpa using h⟩
  · rw [List.getElem?_eq_none hl] at h
    cases h
def okE (E : Ents) (o : Nat) : Bool := hereE E o || decide (E.length < 6)
/-- A tuple is taken: it stands in its owner's place; of a new owner, where there is room. -/
def putE (E : Ents) (e : Ent) : Ents := if hereE E e.t.owner = true then E.set (posE E e.t.owner) e else if E.length < 6 then E.take (posE E e.t.owner) ++ e :: E.drop (posE E e.t.owner) else E
/-- Until when. -/
def untilE (now : Int) : Int := if now < 0 then now + 1000000 else ((addC now 1000000 : Nat) : Int)
theorem untilE_i64 {now : Int} (h : I64 now) : I64 (untilE now) := by
  unfold untilE addC po
  unfold I64 at *
  split <;> omega
/-- What is left. -/
def tickE (E : Ents) (now : Int) : Ents := E.filter fun e => decide (now < e.u)
theorem tickE_len (E : Ents) (now : Int) : (tickE E now).length ≤ E.length := List.length_filter_le ..
structure EntsOk (E : Ents) : Prop where
  ins : ∀ e ∈ E, e.In
  len : E.length ≤ 6
theorem EntsOk.nil : EntsOk [] := ⟨(fun e h => by cases h), (by simp)⟩
theorem EntsOk.tick {E : Ents} (h : EntsOk E) (now : Int) : EntsOk (tickE E now) := ⟨fun e he => h.ins e (List.mem_filter.1 he).1, Nat.le_trans (tickE_len E now) h.len⟩
theorem putE_mem {E : Ents} {e x : Ent} (h : x ∈ putE E e) : x = e ∨ x ∈ E := by
  unfold putE at h
  split at h
  · rcases List.mem_or_eq_of_mem_set h with h | h
    · exact .inr h
    · exact .inl h
  · split at h
    · rcases List.mem_append.1 h with h | h
      · exact .inr (List.mem_of_mem_take h)
      · rcases List.mem_cons.1 h with h | h
        · exact .inl h
        · exact .inr (List.mem_of_mem_drop h)
    · exact .inr h
theorem EntsOk.put {E : Ents} (h : EntsOk E) {e : Ent} (he : e.In) : EntsOk (putE E e) := by
  refine ⟨fun x hx => ?_, ?_⟩
  · rcases putE_mem hx with h1 | h1
    · rw [h1]; exact he
    · exact h.ins x h1
  · have := h.len
    have hp := posE_le E e.t.owner
    unfold putE
    split
    · rw [List.length_set]; exact h.len
    · split
      · rw [List.length_append, List.length_cons, List.length_take, List.length_drop]; omega
      · exact h.len
/-! ### By owner -/
def SortE (E : Ents) : Prop := E.Pairwise fun a b => a.t.owner < b.t.owner
theorem SortE.nil : SortE [] := List.Pairwise.nil
theorem SortE.tick {E : Ents} (h : SortE E) (now : Int) : SortE (tickE E now) := List.Pairwise.filter _ h
theorem set_owner : ∀ (E : Ents) (q : Nat) (e : Ent) (h : q < E.length), E[q].t.owner = e.t.owner → (E.set q e).map (fun x => x.t.owner) = E.map (fun x => x.t.owner)
  | x :: r, 0, e, _, he => by
    have he : x.t.owner = e.t.owner := he
    show e.t.owner :: r.map _ = x.t.owner :: r.map _
    rw [he]
  | x :: r, q + 1, e, h, he => by
    have ih := set_owner r q e (by simpa using h) (by simpa using he)
    show x.t.owner :: (r.set q e).map _ = x.t.owner :: r.map _
    rw [ih]
theorem sort_map {E : Ents} : SortE E ↔ (E.map fun x => x.t.owner).Pairwise (· < ·) := List.pairwise_map.symm
theorem SortE.put {E : Ents} (h : SortE E) (e : Ent) : SortE (putE E e) := by
  unfold putE
  split
  · rename_i hh
    obtain ⟨hl, ho⟩ := hereE_get hh
    rw [sort_map, set_owner E _ e hl ho]
    exact sort_map.1 h
  · rename_i hh
    split
    · have hp := posE_le E e.t.owner
      refine List.pairwise_append.2 ⟨h.sublist (List.take_sublist _ _), List.pairwise_cons.2 ⟨fun b hb => ?_, h.sublist (List.drop_sublist _ _)⟩, fun a ha b hb => ?_⟩
      · obtain ⟨i, hi, rfl⟩ := List.mem_iff_getElem.1 hb
        rw [List.getElem_drop]
        have hlt : posE E e.t.owner < E.length := by simp at hi; omega
        have h1 := posE_at E e.t.owner hlt
        have h2 : E[posE E e.t.owner].t.owner ≠ e.t.owner := fun h2 => hh (hereE_yes hlt h2)
        rcases Nat.eq_zero_or_pos i with h0 | h0
        · subst h0
          simp only [Nat.add_zero]
          omega
        · have h3 := List.pairwise_iff_getElem.1 h (posE E e.t.owner) (posE E e.t.owner + i) hlt (by simp at hi; omega) (by omega)
          omega
      · obtain ⟨i, hi, rfl⟩ := List.mem_iff_getElem.1 ha
        rw [List.getElem_take]
        have hil : i < posE E e.t.owner := by simp at hi; omega
        have h1 := posE_before E e.t.owner i (by omega) hil
        rcases List.mem_cons.1 hb with rfl | hb
        · exact h1
        · obtain ⟨j, hj, rfl⟩ := List.mem_iff_getElem.1 hb
          rw [List.getElem_drop]
          exact List.pairwise_iff_getElem.1 h i (posE E e.t.owner + j) (by omega) (by simp at hj; omega) (by omega)
    · exact h
/-! ### The limit -/
def rbI : Option Nat → Int
  | some r => (r : Int)
  | none => -1
def capN (c : Int) : Nat := if c < 1 then 1 else min c.toNat 1099511627776
theorem capN_le (c : Int) : 1 ≤ capN c ∧ capN c ≤ 1099511627776 := by
  unfold capN
  split <;> omega
def rbC (c : Nat) : Option Nat → Nat
  | some r => min c r
  | none => c
def limV (c : Nat) (rb : Option Nat) (E : Ents) : Nat := if E.length = 0 then rbC c rb else min (rbC c rb) (btR (minR (heldR E.T)))
theorem rbC_le (c : Nat) (rb : Option Nat) : rbC c rb ≤ c := by
  cases rb with
  | none => exact Nat.le_refl _
  | some r => exact Nat.min_le_left _ _
theorem limV_le (c : Nat) (rb : Option Nat) (E : Ents) : limV c rb E ≤ c := by
  have := rbC_le c rb
  unfold limV
  split <;> omega
end Go.Proofs.Ytfijlgkgbbemnaa
