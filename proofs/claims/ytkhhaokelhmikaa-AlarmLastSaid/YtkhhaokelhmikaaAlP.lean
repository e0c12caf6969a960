/- Deadlines, in plain words: rows of them, the first of a row, a key dropped. No function of the program. -/
import Derived.Test.YtkhhaokelhmikaaBaz
namespace Go.Proofs.Ytkhhaokelhmikaa
open Go.RowKit
set_option linter.unusedVariables false
set_option linter.unusedSimpArgs false
set_option maxRecDepth 20000

/-- A deadline: its time, its key. -/
structure Du where
  t : Int
  k : Nat
structure Du.In (x : Du) : Prop where
  t : I64 x.t
  k : x.k < 18446744073709551616
theorem Du.eta {a b : Du} (h1 : a.t = b.t) (h2 : a.k = b.k) : a = b := by cases a; cases b; simp_all
def zD : Du := ⟨0, 0⟩
theorem zD_in : zD.In := ⟨⟨by decide, by decide⟩, by decide⟩
def ltB (a b : Du) : Bool := decide (a.t < b.t) || (decide (a.t = b.t) && decide (a.k < b.k))
def dropK (L : List Du) (k : Nat) : List Du := L.filter (fun d => d.k != k)
def hasK (L : List Du) (k : Nat) : Bool := L.any (fun d => d.k == k)
def lookK (L : List Du) (k : Nat) : Int := match L.find? (fun d => d.k == k) with
  | some d => d.t
  | none => 0
def setK (L : List Du) (k : Nat) (t : Int) : List Du := dropK L k ++ [⟨t, k⟩]
def lateK (L : List Du) (now : Int) : List Du := L.filter (fun d => decide (now < d.t))
def Keys (L : List Du) : Prop := (L.map Du.k).Nodup
def InD (L : List Du) : Prop := ∀ x ∈ L, x.In

theorem ltB_iff {a b : Du} : ltB a b = true ↔ a.t < b.t ∨ (a.t = b.t ∧ a.k < b.k) := by unfold ltB; simp
theorem ltB_irrefl (a : Du) : ltB a a = false := by
  cases h : ltB a a with
  | false => rfl
  | true => rw [ltB_iff] at h; omega
theorem ltB_asymm {a b : Du} (h : ltB a b = true) : ltB b a = false := by
  cases h2 : ltB b a with
  | false => rfl
  | true => rw [ltB_iff] at h h2; omega
theorem ltB_trans {a b c : Du} (h : ltB a b = true) (h2 : ltB b c = true) : ltB a c = true := by rw [ltB_iff] at h h2 ⊢; omega
theorem ltB_not {a b c : Du} (h : ltB a b = false) (h2 : ltB b c = false) : ltB a c = false := by
  cases h3 : ltB a c with
  | false => rfl
  | true =>
    rw [ltB_iff] at h3
    have n1 : ¬ (a.t < b.t ∨ (a.t = b.t ∧ a.k < b.k)) := fun e => by rw [← ltB_iff, h] at e; cases e
    have n2 : ¬ (b.t < c.t ∨ (b.t = c.t ∧ b.k < c.k)) := fun e => by rw [← ltB_iff, h2] at e; cases e
    omega
theorem ltB_eq {a b : Du} (h : ltB a b = false) (h2 : ltB b a = false) : a = b := by
  have n1 : ¬ (a.t < b.t ∨ (a.t = b.t ∧ a.k < b.k)) := fun e => by rw [← ltB_iff, h] at e; cases e
  have n2 : ¬ (b.t < a.t ∨ (b.t = a.t ∧ b.k < a.k)) := fun e => by rw [← ltB_iff, h2] at e; cases e
  exact Du.eta (by omega) (by omega)

theorem dropK_mem {L : List Du} {k : Nat} {d : Du} : d ∈ dropK L k ↔ d ∈ L ∧ d.k ≠ k := by unfold dropK; simp
theorem dropK_len (L : List Du) (k : Nat) : (dropK L k).length ≤ L.length := List.length_filter_le _ _
theorem dropK_in {L : List Du} (h : InD L) (k : Nat) : InD (dropK L k) := fun x hx => h x (dropK_mem.1 hx).1
theorem keys_filter {L : List Du} (h : Keys L) (p : Du → Bool) : Keys (L.filter p) := by
  unfold Keys at h ⊢
  exact List.Nodup.sublist (List.Sublist.map _ List.filter_sublist) h
theorem dropK_keys {L : List Du} (h : Keys L) (k : Nat) : Keys (dropK L k) := keys_filter h _
theorem lateK_keys {L : List Du} (h : Keys L) (now : Int) : Keys (lateK L now) := keys_filter h _
theorem lateK_mem {L : List Du} {now : Int} {d : Du} : d ∈ lateK L now ↔ d ∈ L ∧ now < d.t := by unfold lateK; simp
theorem lateK_in {L : List Du} (h : InD L) (now : Int) : InD (lateK L now) := fun x hx => h x (lateK_mem.1 hx).1
theorem lateK_len (L : List Du) (now : Int) : (lateK L now).length ≤ L.length := List.length_filter_le _ _
theorem keys_nil : Keys [] := List.nodup_nil
theorem keys_one {L : List Du} (h : Keys L) {a b : Du} (ha : a ∈ L) (hb : b ∈ L) (e : a.k = b.k) : a = b := by
  induction L with
  | nil => cases ha
  | cons x r ih =>
    unfold Keys at h ih
    rw [List.map_cons, List.nodup_cons] at h
    rcases List.mem_cons.1 ha with rfl | ha'
    · rcases List.mem_cons.1 hb with rfl | hb'
      · rfl
      · exact absurd (List.mem_map.2 ⟨b, hb', e.symm⟩) h.1
    · rcases List.mem_cons.1 hb with rfl | hb'
      · exact absurd (List.mem_map.2 ⟨a, ha', e⟩) h.1
      · exact ih h.2 ha' hb'
theorem setK_keys {L : List Du} (h : Keys L) (k : Nat) (t : Int) : Keys (setK L k t) := by
  have h1 := dropK_keys h k
  unfold setK
  unfold Keys at h1 ⊢
  rw [List.map_append, List.nodup_append]
  refine ⟨h1, by simp, fun a ha b hb e => ?_⟩
  obtain ⟨d, hd, rfl⟩ := List.mem_map.1 ha
  have hb : b = k := by simpa using hb
  exact (dropK_mem.1 hd).2 (e.trans hb)
theorem setK_in {L : List Du} (h : InD L) {k : Nat} {t : Int} (hk : k < 18446744073709551616) (ht : I64 t) : InD (setK L k t) := fun x hx => by
  rcases List.mem_append.1 hx with h1 | h1
  · exact dropK_in h k x h1
  · rw [List.mem_singleton] at h1
    rw [h1]
    exact ⟨ht, hk⟩
theorem setK_len (L : List Du) (k : Nat) (t : Int) : (setK L k t).length ≤ L.length + 1 := by
  have := dropK_len L k
  unfold setK
  rw [List.length_append, List.length_singleton]
  omega
theorem dropK_snoc (L : List Du) (x : Du) (k : Nat) : dropK (L ++ [x]) k = if x.k = k then dropK L k else dropK L k ++ [x] := by
  unfold dropK
  rw [List.filter_append]
  by_cases h : x.k = k
  · rw [if_pos h]
    simp [h]
  · rw [if_neg h]
    simp [h]
theorem hasK_len (L : List Du) (k : Nat) : hasK L k = decide ((dropK L k).length < L.length) := by
  unfold hasK dropK
  induction L with
  | nil => rfl
  | cons x r ih =>
    by_cases h : x.k = k
    · have hl := List.length_filter_le (fun d : Du => d.k != k) r
      rw [List.any_cons, List.filter_cons, if_neg (by simpa using h), List.length_cons]
      rw [decide_eq_true (by omega)]
      simp [h]
    · rw [List.any_cons, List.filter_cons, if_pos (by simpa using h), List.length_cons, List.length_cons, ih]
      have e : (x.k == k) = false := by simpa using h
      rw [e, Bool.false_or]
      by_cases hh : (r.filter (fun d : Du => d.k != k)).length < r.length
      · rw [decide_eq_true hh, decide_eq_true (by omega)]
      · rw [decide_eq_false hh, decide_eq_false (by omega)]
theorem hasK_snoc (L : List Du) (x : Du) (k : Nat) : hasK (L ++ [x]) k = (hasK L k || x.k == k) := by unfold hasK; rw [List.any_append]; simp
theorem hasK_false {L : List Du} {k : Nat} (h : hasK L k = false) {d : Du} (hd : d ∈ L) : d.k ≠ k := fun e => by
  unfold hasK at h
  rw [List.any_eq_false] at h
  exact h d hd (by simpa using e)
theorem lookK_no {L : List Du} {k : Nat} (h : hasK L k = false) : lookK L k = 0 := by
  unfold lookK
  rw [List.find?_eq_none.2 fun d hd => by simpa using hasK_false h hd]
theorem lookK_snoc_eq {L : List Du} {x : Du} {k : Nat} (h : hasK L k = false) (hx : x.k = k) : lookK (L ++ [x]) k = x.t := by
  unfold lookK
  rw [List.find?_append, List.find?_eq_none.2 fun d hd => by simpa using hasK_false h hd]
  simp [hx]
theorem lookK_snoc_ne {L : List Du} {x : Du} {k : Nat} (hx : x.k ≠ k) : lookK (L ++ [x]) k = lookK L k := by
  unfold lookK
  rw [List.find?_append]
  cases L.find? (fun d => d.k == k) <;> simp [hx]
theorem keys_snoc_no {L : List Du} {x : Du} (h : Keys (L ++ [x])) : hasK L x.k = false := by
  unfold hasK
  rw [List.any_eq_false]
  intro d hd e
  unfold Keys at h
  rw [List.map_append, List.nodup_append] at h
  exact h.2.2 d.k (List.mem_map.2 ⟨d, hd, rfl⟩) x.k (by simp) (by simpa using e)

/-- The first of a row, by its place: what is less than the one at hand takes its place. -/
def bestN (L : List Du) : Nat → Nat
  | 0 => 0
  | i + 1 => if ltB (L.getD i zD) (L.getD (bestN L i) zD) = true then i else bestN L i
def bestI (L : List Du) : Nat := bestN L L.length
theorem bestN_lt (L : List Du) : ∀ i, 0 < i → bestN L i < i
  | 0, h => by omega
  | i + 1, _ => by
    unfold bestN
    split
    · omega
    · rcases Nat.eq_zero_or_pos i with h0 | h0
      · subst h0; simp [bestN]
      · have := bestN_lt L i h0; omega
theorem bestN_best (L : List Du) : ∀ i j, j < i → ltB (L.getD j zD) (L.getD (bestN L i) zD) = false
  | 0, j, h => by omega
  | i + 1, j, h => by
    unfold bestN
    by_cases hj : j = i
    · subst hj
      by_cases hb : ltB (L.getD j zD) (L.getD (bestN L j) zD) = true
      · rw [if_pos hb]; exact ltB_irrefl _
      · rw [if_neg hb]; simpa using hb
    · have ih := bestN_best L i j (by omega)
      by_cases hb : ltB (L.getD i zD) (L.getD (bestN L i) zD) = true
      · rw [if_pos hb]
        exact ltB_not ih (ltB_asymm hb)
      · rw [if_neg hb]; exact ih
theorem getD_at {L : List Du} {j : Nat} (h : j < L.length) : L.getD j zD = L[j] := by simp [List.getD, h]
def firstD (L : List Du) : Du := L.getD (bestI L) zD
theorem bestI_lt {L : List Du} (h : 0 < L.length) : bestI L < L.length := bestN_lt L _ h
theorem firstD_mem {L : List Du} (h : 0 < L.length) : firstD L ∈ L := by
  unfold firstD
  rw [getD_at (bestI_lt h)]
  exact List.getElem_mem _
theorem firstD_least {L : List Du} {d : Du} (hd : d ∈ L) : ltB d (firstD L) = false := by
  obtain ⟨j, hj, rfl⟩ := List.getElem_of_mem hd
  have := bestN_best L L.length j hj
  rw [getD_at hj] at this
  exact this
theorem firstD_unique {L : List Du} {d : Du} (hd : d ∈ L) (h : ∀ x ∈ L, ltB x d = false) : firstD L = d :=
  ltB_eq (h _ (firstD_mem (List.length_pos_of_mem hd))) (firstD_least hd)
theorem firstD_nil : firstD [] = zD := rfl

/-- What Due answers: in order, just those that are due. -/
structure DueR (L : List Du) (now : Int) (R : List Du) : Prop where
  order : R.Pairwise (fun a b => ltB a b = true)
  mem : ∀ d, d ∈ R ↔ d ∈ L ∧ d.t ≤ now
theorem DueR.more {L R : List Du} {now : Int} (h : DueR L now R) (hn : 0 < L.length) (hf : (firstD L).t ≤ now) : ∃ r, R = firstD L :: r := by
  have h1 := (h.mem (firstD L)).2 ⟨firstD_mem hn, hf⟩
  cases R with
  | nil => cases h1
  | cons x r =>
    rcases List.mem_cons.1 h1 with e | h2
    · exact ⟨r, by rw [e]⟩
    · have h3 := (List.pairwise_cons.1 h.order).1 _ h2
      have h4 := firstD_least ((h.mem x).1 (List.mem_cons_self)).1
      rw [h3] at h4
      cases h4
theorem DueR.step {L r : List Du} {now : Int} {x : Du} (h : DueR L now (x :: r)) (hk : Keys L) : DueR (dropK L x.k) now r := by
  have ho := List.pairwise_cons.1 h.order
  have hx := (h.mem x).1 (List.mem_cons_self)
  refine ⟨ho.2, fun d => ⟨fun hd => ?_, fun hd => ?_⟩⟩
  · have h1 := (h.mem d).1 (List.mem_cons_of_mem _ hd)
    refine ⟨dropK_mem.2 ⟨h1.1, fun e => ?_⟩, h1.2⟩
    have h2 := keys_one hk h1.1 hx.1 e
    subst h2
    have h3 := ho.1 _ hd
    rw [ltB_irrefl] at h3
    cases h3
  · obtain ⟨h1, h2⟩ := hd
    obtain ⟨h3, h4⟩ := dropK_mem.1 h1
    rcases List.mem_cons.1 ((h.mem d).2 ⟨h3, h2⟩) with rfl | h5
    · exact absurd rfl h4
    · exact h5
theorem DueR.done {L R : List Du} {now : Int} (h : DueR L now R) (hn : L.length = 0 ∨ now < (firstD L).t) : R = [] ∧ lateK L now = L := by
  have hall : ∀ d ∈ L, now < d.t := fun d hd => by
    rcases hn with h0 | h0
    · have := List.length_pos_of_mem hd
      omega
    · have h1 := firstD_least hd
      have n1 : ¬ (d.t < (firstD L).t ∨ (d.t = (firstD L).t ∧ d.k < (firstD L).k)) := fun e => by rw [← ltB_iff, h1] at e; cases e
      omega
  refine ⟨List.eq_nil_iff_forall_not_mem.2 fun d hd => ?_, ?_⟩
  · have h1 := (h.mem d).1 hd
    have h2 := hall d h1.1
    omega
  · unfold lateK
    exact List.filter_eq_self.2 fun d hd => by simpa using hall d hd
theorem late_drop {L : List Du} {now : Int} {x : Du} (hk : Keys L) (hx : x ∈ L) (ht : x.t ≤ now) : lateK (dropK L x.k) now = lateK L now := by
  unfold lateK dropK
  rw [List.filter_filter]
  refine List.filter_congr fun d hd => ?_
  by_cases h : d.k = x.k
  · have := keys_one hk hd hx h
    subst this
    rw [decide_eq_false (by omega), Bool.false_and]
  · simp [h]
theorem DueR.nodup {L R : List Du} {now : Int} (h : DueR L now R) : R.Nodup :=
  h.order.imp fun {a b} hab e => by
    subst e
    rw [ltB_irrefl] at hab
    cases hab
theorem keys_nodup {L : List Du} (h : Keys L) : L.Nodup := by
  unfold Keys at h
  unfold List.Nodup at h ⊢
  rw [List.pairwise_map] at h
  exact h.imp fun {a b} hab e => hab (by rw [e])
/-- Rows without twins that hold the same are as long. -/
theorem nodup_le {L : List Du} : ∀ {M : List Du}, L.Nodup → (∀ d, d ∈ L → d ∈ M) → L.length ≤ M.length := by
  induction L with
  | nil => intro M _ _; simp
  | cons x r ih =>
    intro M hn hs
    obtain ⟨a, b, rfl⟩ := List.append_of_mem (hs x List.mem_cons_self)
    have hx := (List.nodup_cons.1 hn).1
    have := ih (M := a ++ b) (List.nodup_cons.1 hn).2 fun d hd => by
      rcases List.mem_append.1 (hs d (List.mem_cons_of_mem _ hd)) with h | h
      · exact List.mem_append_left _ h
      · rcases List.mem_cons.1 h with rfl | h
        · exact absurd hd hx
        · exact List.mem_append_right _ h
    simp only [List.length_append, List.length_cons] at this ⊢
    omega
theorem nodup_len {L M : List Du} (h1 : L.Nodup) (h2 : M.Nodup) (h : ∀ d, d ∈ L ↔ d ∈ M) : L.length = M.length :=
  Nat.le_antisymm (nodup_le h1 fun d => (h d).1) (nodup_le h2 fun d => (h d).2)
theorem DueR.len {L R : List Du} {now : Int} (h : DueR L now R) (hk : Keys L) : R.length + (lateK L now).length = L.length := by
  have e : R.length = (L.filter (fun d => decide (d.t ≤ now))).length := by
    refine nodup_len h.nodup (keys_nodup (keys_filter hk _)) fun d => ?_
    rw [h.mem d]
    simp
  rw [e]
  unfold lateK
  induction L with
  | nil => rfl
  | cons x r ih =>
    clear e h
    have ih' : (r.filter (fun d => decide (d.t ≤ now))).length + (r.filter (fun d => decide (now < d.t))).length = r.length := by
      clear hk ih
      induction r with
      | nil => rfl
      | cons y s ih =>
        rw [List.filter_cons, List.filter_cons]
        by_cases hy : y.t ≤ now
        · rw [if_pos (by simpa using hy), if_neg (by simp; omega)]
          simp only [List.length_cons]
          omega
        · rw [if_neg (by simpa using hy), if_pos (by simp; omega)]
          simp only [List.length_cons]
          omega
    rw [List.filter_cons, List.filter_cons]
    by_cases hy : x.t ≤ now
    · rw [if_pos (by simpa using hy), if_neg (by simp; omega)]
      simp only [List.length_cons]
      omega
    · rw [if_neg (by simpa using hy), if_pos (by simp; omega)]
      simp only [List.length_cons]
      omega
end Go.Proofs.Ytkhhaokelhmikaa
