/- The bounding set, in plain words: lines, the least, what meets first, the chain of them; that it is one row whatever the order, bounds as much as all, bounds itself. No function of the program. -/
import Derived.Test.YtfijlgkgbbemnaaBaz
namespace Go.Proofs.Ytfijlgkgbbemnaa
open Go.RowKit
set_option linter.unusedVariables false
set_option linter.unusedSimpArgs false
set_option maxRecDepth 20000

/-- A held tuple: whose, its rate, its overhead. -/
structure Ln where
  o : Nat
  r : Nat
  v : Nat
theorem Ln.eta {a b : Ln} (h1 : a.o = b.o) (h2 : a.r = b.r) (h3 : a.v = b.v) : a = b := by cases a; cases b; simp_all
/-- a comes ahead of b: the least rate, then the greatest overhead, then the least owner. -/
def fstL (a b : Ln) : Prop := a.r < b.r ∨ a.r = b.r ∧ (b.v < a.v ∨ a.v = b.v ∧ a.o < b.o)
def Cand (at_ c : Ln) : Prop := at_.v < c.v ∧ at_.r ≤ c.r
/-- a's line meets at's sooner than b's, or as soon and a comes ahead. -/
def betterL (at_ a b : Ln) : Prop := (a.r - at_.r) * (b.v - at_.v) < (b.r - at_.r) * (a.v - at_.v) ∨ (a.r - at_.r) * (b.v - at_.v) = (b.r - at_.r) * (a.v - at_.v) ∧ (b.v < a.v ∨ a.v = b.v ∧ a.o < b.o)
/-- They meet where at's is above 0. -/
def above (at_ b : Ln) : Prop := at_.v * (b.r - at_.r) < at_.r * (b.v - at_.v)
def IsLeast (l : List Ln) (a : Ln) : Prop := a ∈ l ∧ ∀ c ∈ l, ¬ fstL c a
def IsNext (l : List Ln) (at_ b : Ln) : Prop := b ∈ l ∧ Cand at_ b ∧ ∀ c ∈ l, Cand at_ c → ¬ betterL at_ c b
inductive Chain (l : List Ln) : Ln → List Ln → Prop
  | stop {a : Ln} (h : ∀ b, IsNext l a b → ¬ above a b) : Chain l a [a]
  | more {a b : Ln} {r : List Ln} (h : IsNext l a b) (ha : above a b) (hr : Chain l b r) : Chain l a (a :: r)
/-- R is what bounds l. -/
def BSet (l R : List Ln) : Prop := (l = [] ∧ R = []) ∨ ∃ a, IsLeast l a ∧ Chain l a R

theorem least_one {l : List Ln} {a b : Ln} (ha : IsLeast l a) (hb : IsLeast l b) : a = b := by
  have h1 := ha.2 b hb.1
  have h2 := hb.2 a ha.1
  unfold fstL at h1 h2
  exact Ln.eta (by omega) (by omega) (by omega)
theorem next_one {l : List Ln} {at_ a b : Ln} (ha : IsNext l at_ a) (hb : IsNext l at_ b) : a = b := by
  have h1 := ha.2.2 b hb.1 hb.2.1
  have h2 := hb.2.2 a ha.1 ha.2.1
  obtain ⟨c1, c2⟩ := ha.2.1
  obtain ⟨c3, c4⟩ := hb.2.1
  unfold betterL at h1 h2
  generalize hx : (a.r - at_.r) * (b.v - at_.v) = X at h1 h2
  generalize hy : (b.r - at_.r) * (a.v - at_.v) = Y at h1 h2
  have hxy : X = Y := by omega
  have hv : a.v = b.v := by omega
  have hr : a.r - at_.r = b.r - at_.r := by
    rw [hxy, ← hy, hv] at hx
    exact Nat.eq_of_mul_eq_mul_right (by omega) hx
  exact Ln.eta (by omega) (by omega) hv
theorem chain_one {l : List Ln} {a : Ln} {R : List Ln} (h : Chain l a R) : ∀ {R' : List Ln}, Chain l a R' → R = R' := by
  induction h with
  | stop h =>
    intro R' h'
    cases h' with
    | stop _ => rfl
    | more h1 h2 _ => exact absurd h2 (h _ h1)
  | more h ha hr ih =>
    intro R' h'
    cases h' with
    | stop h1 => exact absurd ha (h1 _ h)
    | more h1 h2 h3 =>
      have e := next_one h h1
      subst e
      rw [ih h3]
theorem bset_one {l R R' : List Ln} (h : BSet l R) (h' : BSet l R') : R = R' := by
  rcases h with ⟨h1, h2⟩ | ⟨a, h1, h2⟩
  · rcases h' with ⟨h3, h4⟩ | ⟨b, h3, h4⟩
    · rw [h2, h4]
    · subst h1
      exact absurd h3.1 List.not_mem_nil
  · rcases h' with ⟨h3, h4⟩ | ⟨b, h3, h4⟩
    · subst h3
      exact absurd h1.1 List.not_mem_nil
    · have e := least_one h1 h3
      subst e
      exact chain_one h2 h4
/-! ### It hangs on what there is, not on the order -/
theorem next_same {l m : List Ln} (h : ∀ t, t ∈ l ↔ t ∈ m) {at_ b : Ln} : IsNext l at_ b ↔ IsNext m at_ b :=
  ⟨fun k => ⟨(h b).1 k.1, k.2.1, fun c hc => k.2.2 c ((h c).2 hc)⟩, fun k => ⟨(h b).2 k.1, k.2.1, fun c hc => k.2.2 c ((h c).1 hc)⟩⟩
theorem chain_same {l m : List Ln} (h : ∀ t, t ∈ l ↔ t ∈ m) {a : Ln} {R : List Ln} (k : Chain l a R) : Chain m a R := by
  induction k with
  | stop hs => exact .stop fun b hb => hs b ((next_same h).2 hb)
  | more h1 h2 _ ih => exact .more ((next_same h).1 h1) h2 ih
theorem bset_same {l m R : List Ln} (h : ∀ t, t ∈ l ↔ t ∈ m) (k : BSet l R) : BSet m R := by
  rcases k with ⟨h1, h2⟩ | ⟨a, h1, h2⟩
  · subst h1
    exact .inl ⟨List.eq_nil_iff_forall_not_mem.2 fun t ht => by simpa using (h t).2 ht, h2⟩
  · exact .inr ⟨a, ⟨(h a).1 h1.1, fun c hc => h1.2 c ((h c).2 hc)⟩, chain_same h h2⟩
/-! ### What a chain is -/
theorem chain_head {l : List Ln} {a : Ln} {R : List Ln} (h : Chain l a R) : ∃ r, R = a :: r := by
  cases h with
  | stop _ => exact ⟨[], rfl⟩
  | more _ _ _ => exact ⟨_, rfl⟩
theorem chain_sub {l : List Ln} {a : Ln} {R : List Ln} (h : Chain l a R) (ha : a ∈ l) : ∀ t ∈ R, t ∈ l := by
  induction h with
  | stop _ =>
    intro t ht
    rw [List.mem_singleton] at ht
    rw [ht]; exact ha
  | more h1 _ _ ih =>
    intro t ht
    rcases List.mem_cons.1 ht with rfl | ht
    · exact ha
    · exact ih h1.1 t ht
theorem chain_ge {l : List Ln} {a : Ln} {R : List Ln} (h : Chain l a R) : ∀ t ∈ R, a.v ≤ t.v ∧ a.r ≤ t.r := by
  induction h with
  | stop _ =>
    intro t ht
    rw [List.mem_singleton] at ht
    rw [ht]; exact ⟨Nat.le_refl _, Nat.le_refl _⟩
  | more h1 _ _ ih =>
    intro t ht
    rcases List.mem_cons.1 ht with rfl | ht
    · exact ⟨Nat.le_refl _, Nat.le_refl _⟩
    · have := ih t ht
      have h2 := h1.2.1
      exact ⟨by have := h2.1; omega, by have := h2.2; omega⟩
theorem chain_rise {l : List Ln} {a : Ln} {R : List Ln} (h : Chain l a R) : R.Pairwise (fun x y => x.v < y.v ∧ x.r ≤ y.r) := by
  induction h with
  | stop _ => simp
  | more h1 _ hr ih =>
    refine List.pairwise_cons.2 ⟨fun t ht => ?_, ih⟩
    have h2 := chain_ge hr t ht
    have h3 := h1.2.1
    exact ⟨by have := h3.1; omega, by have := h3.2; omega⟩
/-- Nothing with a greater overhead has a lesser rate. -/
def Low (l : List Ln) (a : Ln) : Prop := ∀ t ∈ l, a.v < t.v → a.r ≤ t.r
theorem low_least {l : List Ln} {a : Ln} (h : IsLeast l a) : Low l a := fun t ht _ => by
  have := h.2 t ht
  unfold fstL at this
  omega
/-- From 'not better' to slopes. -/
theorem slope_le {at_ b c : Ln} (h : ¬ betterL at_ c b) : (b.r - at_.r) * (c.v - at_.v) ≤ (c.r - at_.r) * (b.v - at_.v) := by
  unfold betterL at h
  omega
theorem low_next {l : List Ln} {a b : Ln} (hl : Low l a) (h : IsNext l a b) : Low l b := fun t ht hv => by
  obtain ⟨c1, c2⟩ := h.2.1
  have h1 := hl t ht (by omega)
  have h2 := slope_le (h.2.2 t ht ⟨by omega, h1⟩)
  refine Nat.le_of_not_lt fun h3 => ?_
  have h4 : (b.r - a.r) * (b.v - a.v) < (b.r - a.r) * (t.v - a.v) := Nat.mul_lt_mul_of_pos_left (by omega) (by omega)
  have h5 : (t.r - a.r) * (b.v - a.v) ≤ (b.r - a.r) * (b.v - a.v) := Nat.mul_le_mul_right _ (by omega)
  omega
/-! ### It bounds itself -/
theorem chain_self {l : List Ln} {a : Ln} {R : List Ln} (h : Chain l a R) (ha : a ∈ l) : ∀ {M : List Ln}, (∀ t ∈ R, t ∈ M) → (∀ t ∈ M, t ∈ l) → (∀ t ∈ M, a.v < t.v → t ∈ R) → Chain M a R := by
  induction h with
  | stop hs =>
    rename_i a
    intro M _ _ h3
    refine .stop fun b hb => absurd (h3 b hb.1 hb.2.1.1) fun hm => ?_
    rw [List.mem_singleton] at hm
    have := hb.2.1.1
    rw [hm] at this
    omega
  | more h1 h2 hr ih =>
    rename_i a b r
    intro M hM hl h3
    obtain ⟨r', rfl⟩ := chain_head hr
    refine .more ⟨hM b (List.mem_cons_of_mem _ List.mem_cons_self), h1.2.1, fun c hc => h1.2.2 c (hl c hc)⟩ h2 (ih h1.1 (fun t ht => hM t (List.mem_cons_of_mem _ ht)) hl fun t ht hv => ?_)
    have h4 := h1.2.1.1
    rcases List.mem_cons.1 (h3 t ht (by omega)) with rfl | h5
    · omega
    · exact h5
theorem bset_self {l R : List Ln} (h : BSet l R) : BSet R R := by
  rcases h with ⟨h1, h2⟩ | ⟨a, h1, h2⟩
  · exact .inl ⟨h2, h2⟩
  · obtain ⟨r, e⟩ := chain_head h2
    have hs := chain_sub h2 h1.1
    refine .inr ⟨a, ⟨by rw [e]; exact List.mem_cons_self, fun c hc => h1.2 c (hs c hc)⟩, chain_self h2 h1.1 (fun _ h => h) hs fun _ h _ => h⟩
/-! ### What is let -/
/-- What a line lets at X (8 times so many packets): not below 0. -/
def letL (X : Nat) (t : Ln) : Nat := t.r - t.v * X
/-- The least of all, from n on. -/
def letA (n X : Nat) : List Ln → Nat
  | [] => n
  | t :: r => min (letL X t) (letA n X r)
theorem letA_le {n X : Nat} : ∀ {l : List Ln} {t : Ln}, t ∈ l → letA n X l ≤ letL X t
  | x :: r, t, h => by
    unfold letA
    rcases List.mem_cons.1 h with rfl | h
    · omega
    · have := letA_le (n := n) (X := X) h
      omega
theorem letA_top {n X : Nat} : ∀ (l : List Ln), letA n X l ≤ n
  | [] => Nat.le_refl _
  | x :: r => by have := letA_top (n := n) (X := X) r; unfold letA; omega
theorem le_letA {n X k : Nat} : ∀ {l : List Ln}, k ≤ n → (∀ t ∈ l, k ≤ letL X t) → k ≤ letA n X l
  | [], h, _ => h
  | x :: r, h, ha => by
    have := le_letA (l := r) h fun t ht => ha t (List.mem_cons_of_mem _ ht)
    have := ha x List.mem_cons_self
    unfold letA
    omega
/-- Of two rows, where for each line of the one there is one of the other that lets no more. -/
theorem letA_mono {n X : Nat} {l m : List Ln} (h : ∀ t ∈ l, ∃ s ∈ m, letL X s ≤ letL X t) : letA n X m ≤ letA n X l :=
  le_letA (letA_top m) fun t ht => by
    obtain ⟨s, hs, h1⟩ := h t ht
    exact Nat.le_trans (letA_le hs) h1
/-- a's line lies nowhere above at X, against those of no more overhead. -/
def Und (l : List Ln) (X : Nat) (a : Ln) : Prop := ∀ t ∈ l, t.v ≤ a.v → a.r + t.v * X ≤ t.r + a.v * X
theorem und_least {l : List Ln} {X : Nat} {a : Ln} (h : IsLeast l a) : Und l X a := fun t ht hv => by
  have h1 := h.2 t ht
  unfold fstL at h1
  have h2 : t.v * X ≤ a.v * X := Nat.mul_le_mul_right _ hv
  omega
theorem let_und {l : List Ln} {X : Nat} {a t : Ln} (h : Und l X a) (ht : t ∈ l) (hv : t.v ≤ a.v) : letL X a ≤ letL X t := by
  have := h t ht hv
  unfold letL
  omega
/-- Where they have not met yet. -/
theorem let_before {a t : Ln} {X : Nat} (hv : a.v ≤ t.v) (h : X * (t.v - a.v) ≤ t.r - a.r) (hr : a.r ≤ t.r) : letL X a ≤ letL X t := by
  have e : t.v * X = a.v * X + X * (t.v - a.v) := by
    rw [Nat.mul_comm X, ← Nat.add_mul]
    congr 1
    omega
  unfold letL
  omega
theorem und_next {l : List Ln} {X : Nat} {a b : Ln} (hl : Low l a) (hu : Und l X a) (h : IsNext l a b) (hX : b.r - a.r ≤ X * (b.v - a.v)) : Und l X b := fun t ht hv => by
  obtain ⟨c1, c2⟩ := h.2.1
  have eb : b.v * X = a.v * X + X * (b.v - a.v) := by
    rw [Nat.mul_comm X, ← Nat.add_mul]; congr 1; omega
  by_cases h1 : t.v ≤ a.v
  · have := hu t ht h1
    omega
  · have h2 := hl t ht (by omega)
    have h3 := slope_le (h.2.2 t ht ⟨by omega, h2⟩)
    have et : t.v * X = a.v * X + X * (t.v - a.v) := by
      rw [Nat.mul_comm X, ← Nat.add_mul]; congr 1; omega
    -- (b.r - a.r) + X (t.v - a.v) ≤ (t.r - a.r) + X (b.v - a.v)
    have key : (b.r - a.r) + X * (t.v - a.v) ≤ (t.r - a.r) + X * (b.v - a.v) := by
      have hdv : t.v - a.v ≤ b.v - a.v := by omega
      have hp : 0 < b.v - a.v := by omega
      generalize b.r - a.r = p at *
      generalize t.r - a.r = s at *
      generalize b.v - a.v = V at *
      generalize t.v - a.v = U at *
      -- p U ≤ s V, p ≤ X V, U ≤ V
      obtain ⟨D, rfl⟩ : ∃ D, V = U + D := ⟨V - U, by omega⟩
      refine Nat.le_of_mul_le_mul_right ?_ hp
      have k1 : p * D ≤ X * (U + D) * D := Nat.mul_le_mul_right _ hX
      have k2 : (p + X * U) * (U + D) = p * U + p * D + X * U * (U + D) := by
        rw [Nat.add_mul, Nat.mul_add p]
      have k3 : (s + X * (U + D)) * (U + D) = s * (U + D) + X * (U + D) * D + X * U * (U + D) := by
        rw [Nat.add_mul, Nat.mul_add X U D]
        have : (X * U + X * D) * (U + D) = (X * U + X * D) * D + X * U * (U + D) := by
          rw [Nat.mul_add (X * U + X * D) U D, Nat.add_mul (X * U) (X * D) U, Nat.mul_add (X * U) U D, Nat.mul_right_comm X D U]
          omega
        omega
      omega
    omega
theorem before_lets {l : List Ln} {a b t : Ln} {X : Nat} (h : IsNext l a b) (hX : X * (b.v - a.v) ≤ b.r - a.r) (hl : Low l a) (ht : t ∈ l) (hv : a.v < t.v) : letL X a ≤ letL X t := by
  have h2 := hl t ht hv
  have h3 := slope_le (h.2.2 t ht ⟨hv, h2⟩)
  have c1 := h.2.1.1
  refine let_before (by omega) ?_ h2
  refine Nat.le_of_mul_le_mul_right ?_ (show 0 < b.v - a.v by omega)
  have h4 : X * (b.v - a.v) * (t.v - a.v) ≤ (b.r - a.r) * (t.v - a.v) := Nat.mul_le_mul_right _ hX
  rw [Nat.mul_right_comm]
  omega
/-! ### Of some that may be next there is one -/
theorem better_trans {at_ a b c : Ln} (ha : at_.v < a.v) (hb : at_.v < b.v) (hc : at_.v < c.v) (h1 : betterL at_ a b) (h2 : betterL at_ b c) : betterL at_ a c := by
  unfold betterL at *
  have pa : 0 < a.v - at_.v := by omega
  have pb : 0 < b.v - at_.v := by omega
  have pc : 0 < c.v - at_.v := by omega
  generalize a.v - at_.v = A at *
  generalize b.v - at_.v = B at *
  generalize c.v - at_.v = C at *
  generalize a.r - at_.r = p at *
  generalize b.r - at_.r = q at *
  generalize c.r - at_.r = s at *
  -- p B ≤ q A, q C ≤ s B: p C ≤ s A
  rcases h1 with h1 | ⟨h1, t1⟩
  · rcases h2 with h2 | ⟨h2, t2⟩
    · left
      have k1 : p * B * C < q * A * C := Nat.mul_lt_mul_of_pos_right h1 pc
      have k2 : q * C * A < s * B * A := Nat.mul_lt_mul_of_pos_right h2 pa
      refine Nat.lt_of_mul_lt_mul_right (a := B) ?_
      rw [Nat.mul_right_comm p C B, Nat.mul_right_comm s A B]
      rw [Nat.mul_right_comm q A C] at k1
      omega
    · left
      have k1 : p * B * C < q * A * C := Nat.mul_lt_mul_of_pos_right h1 pc
      have k2 : q * C * A = s * B * A := by rw [h2]
      refine Nat.lt_of_mul_lt_mul_right (a := B) ?_
      rw [Nat.mul_right_comm p C B, Nat.mul_right_comm s A B]
      rw [Nat.mul_right_comm q A C] at k1
      omega
  · have k1 : p * B * C = q * A * C := by rw [h1]
    rw [Nat.mul_right_comm q A C] at k1
    rcases h2 with h2 | ⟨h2, t2⟩
    · left
      have k2 : q * C * A < s * B * A := Nat.mul_lt_mul_of_pos_right h2 pa
      refine Nat.lt_of_mul_lt_mul_right (a := B) ?_
      rw [Nat.mul_right_comm p C B, Nat.mul_right_comm s A B]
      omega
    · right
      have k2 : q * C * A = s * B * A := by rw [h2]
      refine ⟨Nat.eq_of_mul_eq_mul_right pb ?_, by omega⟩
      rw [Nat.mul_right_comm p C B, Nat.mul_right_comm s A B]
      omega
theorem better_irrefl (at_ a : Ln) : ¬ betterL at_ a a := by unfold betterL; omega
theorem next_ex {at_ : Ln} : ∀ (l : List Ln), (∃ t ∈ l, Cand at_ t) → ∃ b, IsNext l at_ b
  | [], ⟨t, h, _⟩ => by cases h
  | x :: r, hx => by
    by_cases hr : ∃ t ∈ r, Cand at_ t
    · obtain ⟨b, h1, h2, h3⟩ := next_ex r hr
      by_cases hc : Cand at_ x ∧ betterL at_ x b
      · refine ⟨x, List.mem_cons_self, hc.1, fun c hm hcc hb => ?_⟩
        rcases List.mem_cons.1 hm with rfl | hm
        · exact better_irrefl _ _ hb
        · exact h3 c hm hcc (better_trans hcc.1 hc.1.1 h2.1 hb hc.2)
      · refine ⟨b, List.mem_cons_of_mem _ h1, h2, fun c hm hcc hb => ?_⟩
        rcases List.mem_cons.1 hm with rfl | hm
        · exact hc ⟨hcc, hb⟩
        · exact h3 c hm hcc hb
    · obtain ⟨t, ht, hc⟩ := hx
      rcases List.mem_cons.1 ht with rfl | ht
      · refine ⟨t, List.mem_cons_self, hc, fun c hm hcc hb => ?_⟩
        rcases List.mem_cons.1 hm with rfl | hm
        · exact better_irrefl _ _ hb
        · exact hr ⟨c, hm, hcc⟩
      · exact absurd ⟨t, ht, hc⟩ hr
theorem stop_lets {l : List Ln} {a t : Ln} {X : Nat} (hs : ∀ b, IsNext l a b → ¬ above a b) (hl : Low l a) (ht : t ∈ l) (hv : a.v < t.v) : letL X a ≤ letL X t := by
  obtain ⟨b, hb⟩ := next_ex l ⟨t, ht, hv, hl t ht hv⟩
  by_cases hX : X * (b.v - a.v) ≤ b.r - a.r
  · exact before_lets hb hX hl ht hv
  · have h1 := hs b hb
    unfold above at h1
    have c1 := hb.2.1.1
    have h2 : a.v * (b.r - a.r) ≤ a.v * (X * (b.v - a.v)) := Nat.mul_le_mul_left _ (by omega)
    have h3 : a.r * (b.v - a.v) ≤ a.v * X * (b.v - a.v) := by rw [Nat.mul_assoc]; omega
    have h4 : a.r ≤ a.v * X := Nat.le_of_mul_le_mul_right h3 (by omega)
    unfold letL
    omega
theorem chain_lets {l : List Ln} {a : Ln} {R : List Ln} (h : Chain l a R) {X : Nat} : Low l a → Und l X a → ∃ s ∈ R, ∀ t ∈ l, letL X s ≤ letL X t := by
  induction h with
  | stop hs =>
    rename_i a
    intro hl hu
    refine ⟨a, List.mem_cons_self, fun t ht => ?_⟩
    by_cases h1 : t.v ≤ a.v
    · exact let_und hu ht h1
    · exact stop_lets hs hl ht (by omega)
  | more h1 h2 hr ih =>
    rename_i a b r
    intro hl hu
    by_cases hX : X * (b.v - a.v) ≤ b.r - a.r
    · refine ⟨a, List.mem_cons_self, fun t ht => ?_⟩
      by_cases h3 : t.v ≤ a.v
      · exact let_und hu ht h3
      · exact before_lets h1 hX hl ht (by omega)
    · obtain ⟨s, hs, h3⟩ := ih (low_next hl h1) (und_next hl hu h1 (by omega))
      exact ⟨s, List.mem_cons_of_mem _ hs, h3⟩
/-- For any packets what bounds lets as much as all. -/
theorem bset_lets {l R : List Ln} (h : BSet l R) (n X : Nat) : letA n X R = letA n X l := by
  rcases h with ⟨h1, h2⟩ | ⟨a, h1, h2⟩
  · rw [h1, h2]
  · have hs := chain_sub h2 h1.1
    obtain ⟨s, hsr, h3⟩ := chain_lets h2 (X := X) (low_least h1) (und_least h1)
    refine Nat.le_antisymm (letA_mono fun t ht => ⟨s, hsr, h3 t ht⟩) (letA_mono fun t ht => ⟨t, hs t ht, Nat.le_refl _⟩)
theorem bset_sub {l R : List Ln} (h : BSet l R) : ∀ t ∈ R, t ∈ l := by
  rcases h with ⟨h1, h2⟩ | ⟨a, h1, h2⟩
  · subst h2
    intro t ht
    cases ht
  · exact chain_sub h2 h1.1
theorem bset_rise {l R : List Ln} (h : BSet l R) : R.Pairwise (fun x y => x.v < y.v ∧ x.r ≤ y.r) := by
  rcases h with ⟨h1, h2⟩ | ⟨a, h1, h2⟩
  · subst h2
    exact List.Pairwise.nil
  · exact chain_rise h2
theorem nodup_leL {L : List Ln} : ∀ {M : List Ln}, L.Nodup → (∀ d, d ∈ L → d ∈ M) → L.length ≤ M.length := by
  induction L with
  | nil => intro M _ _; simp
  | cons x r ih =>
    intro M hn hs
    obtain ⟨a, b, rfl⟩ := List.append_of_mem (hs x List.mem_cons_self)
    have hx := (List.nodup_cons.1 hn).1
    have := ih (M := a ++ b) (List.nodup_cons.1 hn).2 fun d hd => by
      rcases List.mem_append.1 (hs d (List.mem_cons_of_mem _ hd)) with h | h
      · exact List.mem_append_left _ h
      · rcases List.mem_cons.1 h with rfl | h
        · exact absurd hd hx
        · exact List.mem_append_right _ h
    simp only [List.length_append, List.length_cons] at this ⊢
    omega
theorem bset_len {l R : List Ln} (h : BSet l R) : R.length ≤ l.length := by
  refine nodup_leL ((bset_rise h).imp fun {a b} hab e => ?_) (bset_sub h)
  subst e
  omega
theorem bset_pos {l R : List Ln} (h : BSet l R) (hl : l ≠ []) : ∃ a r, R = a :: r ∧ IsLeast l a := by
  rcases h with ⟨h1, _⟩ | ⟨a, h1, h2⟩
  · exact absurd h1 hl
  · obtain ⟨r, e⟩ := chain_head h2
    exact ⟨a, r, e, h1⟩
/-! ### One that lets more everywhere changes nothing -/
def Over (x y : Ln) : Prop := x.v = y.v ∧ (x.r < y.r ∨ x.r = y.r ∧ x.o < y.o)
theorem better_over {at_ x y : Ln} (h : Over x y) (hc : at_.v < x.v) (hr : at_.r ≤ x.r) : betterL at_ x y := by
  obtain ⟨h1, h2⟩ := h
  unfold betterL
  rw [← h1]
  rcases h2 with h2 | ⟨h2, h3⟩
  · exact .inl (Nat.mul_lt_mul_of_pos_right (by omega) (by omega))
  · rw [h2]
    exact .inr ⟨rfl, .inr ⟨rfl, h3⟩⟩
theorem next_over {l : List Ln} {x y a b : Ln} (hx : x ∈ l) (h : Over x y) (hl : Low l a) : IsNext (y :: l) a b ↔ IsNext l a b := by
  have hcx : Cand a y → Cand a x := fun c => ⟨by have := c.1; have := h.1; omega, hl x hx (by have := c.1; have := h.1; omega)⟩
  constructor
  · rintro ⟨h1, h2, h3⟩
    rcases List.mem_cons.1 h1 with rfl | h1
    · have c := hcx h2
      exact absurd (better_over h c.1 c.2) (h3 x (List.mem_cons_of_mem _ hx) c)
    · exact ⟨h1, h2, fun c hc => h3 c (List.mem_cons_of_mem _ hc)⟩
  · rintro ⟨h1, h2, h3⟩
    refine ⟨List.mem_cons_of_mem _ h1, h2, fun c hc hcc hb => ?_⟩
    rcases List.mem_cons.1 hc with rfl | hc
    · have cx := hcx hcc
      exact h3 x hx cx (better_trans cx.1 hcc.1 h2.1 (better_over h cx.1 cx.2) hb)
    · exact h3 c hc hcc hb
theorem chain_over {l : List Ln} {x y a : Ln} {R : List Ln} (hx : x ∈ l) (h : Over x y) (hc : Chain l a R) : Low l a → Chain (y :: l) a R := by
  induction hc with
  | stop hs =>
    intro hl
    exact .stop fun b hb => hs b ((next_over hx h hl).1 hb)
  | more h1 h2 _ ih =>
    intro hl
    exact .more ((next_over hx h hl).2 h1) h2 (ih (low_next hl h1))
theorem bset_over {l : List Ln} {x y : Ln} {R : List Ln} (hx : x ∈ l) (h : Over x y) (hb : BSet l R) : BSet (y :: l) R := by
  rcases hb with ⟨h1, _⟩ | ⟨a, h1, h2⟩
  · subst h1
    cases hx
  · refine .inr ⟨a, ⟨List.mem_cons_of_mem _ h1.1, fun c hc hf => ?_⟩, chain_over hx h h2 (low_least h1)⟩
    rcases List.mem_cons.1 hc with rfl | hc
    · have h3 := h1.2 x hx
      obtain ⟨k1, k2⟩ := h
      unfold fstL at h3 hf
      omega
    · exact h1.2 c hc hf
end Go.Proofs.Ytfijlgkgbbemnaa
