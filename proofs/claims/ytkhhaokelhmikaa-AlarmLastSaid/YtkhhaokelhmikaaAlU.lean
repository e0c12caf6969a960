/- A map of times beside a row of deadlines: what it holds is what the row says. No function of the program. -/
import Derived.Test.YtkhhaokelhmikaaAlP
import Derived.Test.YtkhhaokelhmikaaDr
import Derived.Maps.OwnSet
import Derived.Maps.OwnOps
import Derived.Maps.RangeWalk
namespace Go.Proofs.Ytkhhaokelhmikaa
open Go.RowKit Go.Maps
set_option linter.unusedVariables false
set_option linter.unusedSimpArgs false
set_option maxRecDepth 20000

theorem hasK_drop_same (L : List Du) (k : Nat) : hasK (dropK L k) k = false := by
  unfold hasK
  rw [List.any_eq_false]
  intro d hd
  simpa using (dropK_mem.1 hd).2
theorem hasK_iff {L : List Du} {k : Nat} : hasK L k = true ↔ ∃ d ∈ L, d.k = k := by
  unfold hasK
  rw [List.any_eq_true]
  simp
theorem hasK_drop_other {L : List Du} {k k' : Nat} (h : k' ≠ k) : hasK (dropK L k) k' = hasK L k' := by
  cases h1 : hasK L k' with
  | false =>
    cases h2 : hasK (dropK L k) k' with
    | false => rfl
    | true =>
      obtain ⟨d, hd, he⟩ := hasK_iff.1 h2
      exact absurd he (hasK_false h1 (dropK_mem.1 hd).1)
  | true =>
    obtain ⟨d, hd, he⟩ := hasK_iff.1 h1
    exact hasK_iff.2 ⟨d, dropK_mem.2 ⟨hd, by omega⟩, he⟩
theorem lookK_cons (x : Du) (r : List Du) (k : Nat) : lookK (x :: r) k = if x.k = k then x.t else lookK r k := by
  unfold lookK
  rw [List.find?_cons]
  by_cases h : x.k = k
  · simp [h]
  · have h2 : (x.k == k) = false := by simpa using h
    rw [h2, if_neg h]
theorem lookK_drop_other {k k' : Nat} (h : k' ≠ k) : ∀ L : List Du, lookK (dropK L k) k' = lookK L k'
  | [] => rfl
  | x :: r => by
    have ih := lookK_drop_other h r
    have e : dropK (x :: r) k = if x.k = k then dropK r k else x :: dropK r k := by
      unfold dropK
      rw [List.filter_cons]
      by_cases hx : x.k = k <;> simp [hx]
    rw [e]
    by_cases hx : x.k = k
    · rw [if_pos hx, ih, lookK_cons, if_neg (by omega)]
    · rw [if_neg hx, lookK_cons, lookK_cons, ih]
theorem dropK_count {L : List Du} (h : Keys L) (k : Nat) : (dropK L k).length + (if hasK L k then 1 else 0) = L.length := by
  induction L with
  | nil => rfl
  | cons x r ih =>
    have hx : hasK r x.k = false ∧ Keys r := by
      unfold Keys at h ⊢
      rw [List.map_cons, List.nodup_cons] at h
      refine ⟨?_, h.2⟩
      cases h2 : hasK r x.k with
      | false => rfl
      | true =>
        obtain ⟨d, hd, he⟩ := hasK_iff.1 h2
        exact absurd (List.mem_map.2 ⟨d, hd, he⟩) h.1
    have ih := ih hx.2
    have e : dropK (x :: r) k = if x.k = k then dropK r k else x :: dropK r k := by
      unfold dropK
      rw [List.filter_cons]
      by_cases hx : x.k = k <;> simp [hx]
    have e2 : hasK (x :: r) k = (x.k == k || hasK r k) := by unfold hasK; rw [List.any_cons]
    rw [e, e2, List.length_cons]
    by_cases hk : x.k = k
    · have h0 : hasK r k = false := by rw [← hk]; exact hx.1
      rw [h0] at ih ⊢
      rw [if_pos hk]
      simp [hk] at ih ⊢
      omega
    · have h0 : (x.k == k) = false := by simpa using hk
      rw [if_neg hk, h0, Bool.false_or, List.length_cons]
      omega
/-- The datum D holds what the row L says. -/
structure MapR (L : List Du) (D : DataW Unit) : Prop where
  has : ∀ k : Nat, Maps.has D (.int .u64 (k : Int)) = hasK L k
  look : ∀ k : Nat, D.atKey (.int .u64 (k : Int)) (.lit (.int .i64 0)) = .lit (.int .i64 (lookK L k))
  size : Maps.size D = L.length
theorem MapR.nil : MapR [] (.map []) := ⟨fun _ => rfl, fun _ => rfl, rfl⟩
theorem key_lit (k : Nat) : WideAt.IsKeyLit (.int .u64 (k : Int)) := trivial
theorem MapR.put {L : List Du} {D : DataW Unit} (h : MapR L D) (ht : Tidy D) (hk : Keys L) (k : Nat) (t : Int) : MapR (setK L k t) (D.put (.int .u64 (k : Int)) (.lit (.int .i64 t))) := by
  have hsn := dropK_count hk k
  refine ⟨fun k' => ?_, fun k' => ?_, ?_⟩
  · unfold setK
    rw [hasK_snoc]
    by_cases e : k' = k
    · subst e
      rw [has_put_same ht.isMap (key_lit k')]
      simp
    · rw [has_put_other (by intro h2; injection h2; omega), h.has, hasK_drop_other e]
      have : (k == k') = false := by simpa using fun h => e h.symm
      simp [this]
  · unfold setK
    by_cases e : k' = k
    · subst e
      rw [atKey_put_same ht.isMap (key_lit k'), lookK_snoc_eq (hasK_drop_same L k') rfl]
    · rw [atKey_put_other (by intro h2; injection h2; omega), h.look, lookK_snoc_ne (fun h => e h.symm), lookK_drop_other e]
  · rw [size_put ht, h.has, h.size]
    unfold setK
    rw [List.length_append, List.length_singleton]
    cases hh : hasK L k <;> rw [hh] at hsn <;> simp at hsn ⊢ <;> omega
theorem ownsMap_onlyS {H : Type} {P : Program} {k : TypeId} {R : Value → Option (DataW H × List MemPlace)} {w w' : World} {b n : Nat} {D : DataW H} {S : Nat → Prop} (h : w.ownsMap P k R b n D) (ho : OnlyS S w w') (hs : ¬ S b) : w'.ownsMap P k R b n D := by
  have hlt := h.lt
  obtain ⟨es, clock, h1, h2⟩ := h
  exact ⟨es, clock, (ho.block b hlt hs).trans h1, h2⟩
theorem ownsMap_below {H : Type} {P : Program} {k : TypeId} {R : Value → Option (DataW H × List MemPlace)} {w w' : World} {b n : Nat} {D : DataW H} (h : w.ownsMap P k R b n D) (hb : Below w.heap.size w w') : w'.ownsMap P k R b n D :=
  ownsMap_onlyS (S := fun _ => False) h (OnlyS.of hb) (fun h => h)
theorem only_grown {w w' : World} {b : Nat} (h : w.grownBy w' (some b)) : OnlyS (fun k => k = b) w w' := by
  obtain ⟨h1, h2, h3, h4, h5⟩ := h
  exact ⟨h1, h2, h3, h4, fun k hk hn => h5 k hk (fun e => hn (by injection e))⟩
theorem lawU : Keyed Try.prog 23 := int_keyed Try.underlying23
theorem zeroI (w : World) : (zeroValue 2).run Try.prog w = .ok (.int .i64 0) w := by kernel_rfl
theorem wfU {k : Nat} (h : k < 18446744073709551616) : (Lit.int .u64 (k : Int)).wf = true := by
  simp [Lit.wf, IntKind.min, IntKind.max, IntKind.signed, IntKind.bits]
  omega
theorem wfI {k : Int} (h : I64 k) : (Lit.int .i64 k).wf = true := by
  unfold I64 at h
  simp [Lit.wf, IntKind.min, IntKind.max, IntKind.signed, IntKind.bits]
  omega

theorem MapR.del {L : List Du} {D : DataW Unit} (h : MapR L D) (ht : Tidy D) (hk : Keys L) (k : Nat) : MapR (dropK L k) (D.del (.int .u64 (k : Int))) := by
  have hsn := dropK_count hk k
  refine ⟨fun k' => ?_, fun k' => ?_, ?_⟩
  · by_cases e : k' = k
    · subst e
      rw [has_del_same, hasK_drop_same]
    · rw [has_del_other (by intro h2; injection h2; omega), h.has, hasK_drop_other e]
  · by_cases e : k' = k
    · subst e
      rw [atKey_del_same, lookK_no (hasK_drop_same L k')]
    · rw [atKey_del_other (by intro h2; injection h2; omega), h.look, lookK_drop_other e]
  · have hs := size_del (k := .int .u64 (k : Int)) ht
    rw [h.has, h.size] at hs
    cases hh : hasK L k <;> rw [hh] at hs hsn <;> simp at hs hsn ⊢ <;> omega
theorem ownsMap_tight {H : Type} {P : Program} {k : TypeId} {R : Value → Option (DataW H × List MemPlace)} {w : World} {b n : Nat} {D : DataW H} (h : w.ownsMap P k R b n D) : w.ownsMap P k R b (Maps.size D) D := by
  obtain ⟨es, clock, hb, F, hs, hD⟩ := h
  exact ⟨es, clock, hb, F, by rw [hD]; exact Nat.le_of_eq (length_read es).symm, hD⟩
theorem lookK_mem {L : List Du} (h : Keys L) {d : Du} (hd : d ∈ L) : lookK L d.k = d.t := by
  induction L with
  | nil => cases hd
  | cons x r ih =>
    rw [lookK_cons]
    by_cases e : x.k = d.k
    · rw [if_pos e, keys_one h List.mem_cons_self hd e]
    · rw [if_neg e]
      rcases List.mem_cons.1 hd with rfl | hd'
      · exact absurd rfl e
      · unfold Keys at h
        rw [List.map_cons, List.nodup_cons] at h
        exact ih h.2 hd'
theorem entry_of {L : List Du} {D : DataW Unit} (h : MapR L D) (hk : Keys L) {k : Nat} {c : Int} (hhas : Maps.has D (.int .u64 (k : Int)) = true) (hat : ∀ zd, D.atKey (.int .u64 (k : Int)) zd = .lit (.int .i64 c)) : (⟨c, k⟩ : Du) ∈ L := by
  rw [h.has] at hhas
  obtain ⟨d, hd, rfl⟩ := hasK_iff.1 hhas
  have hl := h.look d.k
  rw [hat, lookK_mem hk hd] at hl
  injection hl with hl
  injection hl with _ hl
  rw [hl]
  exact hd
theorem ranges_has {H : Type} {P : Program} {k : TypeId} {R : Value → Option (DataW H × List MemPlace)} {w : World} {b r n cnt : Nat} {D : DataW H} {left : Lit → Bool} (h : w.ranges P k R b r n D left cnt) (K : Keyed P k) {kl : Lit} (hl : left kl = true) : Maps.has D kl = true := by
  obtain ⟨es, clock, since, seen, c0, hb, F, hs, rfl, hr, hold, rfl, hl1, hl2, _⟩ := h
  obtain ⟨x, hx, rfl⟩ := hl2 kl hl
  obtain ⟨y, hy⟩ := F.reads x hx
  exact List.any_eq_true.2 ⟨WideElems.rg P k R x, mem_sorted.2 (List.mem_map.2 ⟨x, hx, rfl⟩), WideAt.sameKey_self (by rw [WideElems.rg_of hy]; exact K.key (WideElems.rd_key hy))⟩
/-! ### Ranging over it -/
@[reducible] def keyL (k : Nat) : Lit := .int .u64 (k : Int)
theorem keyL_same (a b : Nat) : (keyL a).sameKey (keyL b) = decide (a = b) := by
  by_cases h : a = b
  · subst h
    rw [WideAt.sameKey_self (key_lit a)]
    simp
  · rw [sameKey_ne (by intro h2; injection h2; omega)]
    simp [h]
/-- What the map still holds: those that are not due, and those that are to come. -/
def keepL (L : List Du) (now : Int) (left : Lit → Bool) : List Du := L.filter fun d => decide (now < d.t) || left (keyL d.k)
theorem keepL_start {L : List Du} {now : Int} {left : Lit → Bool} (h : ∀ d ∈ L, left (keyL d.k) = true) : keepL L now left = L := by
  unfold keepL
  exact List.filter_eq_self.2 fun d hd => by rw [h d hd]; simp
theorem keepL_end {L : List Du} {now : Int} {left : Lit → Bool} (h : ∀ kl, left kl = false) : keepL L now left = lateK L now := by
  unfold keepL lateK
  exact List.filter_congr fun d hd => by rw [h]; simp
theorem keepL_keys {L : List Du} (h : Keys L) (now : Int) (left : Lit → Bool) : Keys (keepL L now left) := keys_filter h _
theorem keepL_mem {L : List Du} {now : Int} {left : Lit → Bool} {d : Du} (h : d ∈ keepL L now left) : d ∈ L := (List.mem_filter.1 h).1
theorem keepL_drop {L : List Du} {now : Int} {left : Lit → Bool} {x : Du} (hk : Keys L) (hx : x ∈ L) (ht : x.t ≤ now) : keepL L now (fun z => left z && !z.sameKey (keyL x.k)) = dropK (keepL L now left) x.k := by
  unfold keepL dropK
  rw [List.filter_filter]
  refine List.filter_congr fun d hd => ?_
  simp only [keyL_same]
  by_cases h : d.k = x.k
  · have := keys_one hk hd hx h
    subst this
    rw [decide_eq_false (by omega : ¬ now < d.t)]
    simp
  · simp [h]
theorem keepL_stay {L : List Du} {now : Int} {left : Lit → Bool} {x : Du} (hk : Keys L) (hx : x ∈ L) (ht : now < x.t) : keepL L now (fun z => left z && !z.sameKey (keyL x.k)) = keepL L now left := by
  unfold keepL
  refine List.filter_congr fun d hd => ?_
  simp only [keyL_same]
  by_cases h : d.k = x.k
  · have := keys_one hk hd hx h
    subst this
    simp [ht]
  · simp [h]
/-- Those that have come and are due. -/
structure DueL (L : List Du) (now : Int) (left : Lit → Bool) (R : List Du) : Prop where
  nod : R.Nodup
  mem : ∀ d, d ∈ R ↔ d ∈ L ∧ d.t ≤ now ∧ left (keyL d.k) = false
theorem DueL.start {L : List Du} {now : Int} {left : Lit → Bool} (h : ∀ d ∈ L, left (keyL d.k) = true) : DueL L now left [] :=
  ⟨List.nodup_nil, fun d => ⟨fun h => (by cases h), fun hd => (by have := h d hd.1; rw [hd.2.2] at this; cases this)⟩⟩
theorem DueL.take {L R : List Du} {now : Int} {left : Lit → Bool} {x : Du} (h : DueL L now left R) (hk : Keys L) (hx : x ∈ L) (hl : left (keyL x.k) = true) (ht : x.t ≤ now) : DueL L now (fun z => left z && !z.sameKey (keyL x.k)) (R ++ [x]) := by
  refine ⟨?_, fun d => ?_⟩
  · rw [List.nodup_append]
    refine ⟨h.nod, by simp, fun a ha b hb e => ?_⟩
    rw [List.mem_singleton] at hb
    subst hb
    subst e
    have := ((h.mem a).1 ha).2.2
    rw [hl] at this
    cases this
  · rw [List.mem_append, List.mem_singleton, h.mem]
    simp only [keyL_same]
    constructor
    · rintro (⟨h1, h2, h3⟩ | rfl)
      · exact ⟨h1, h2, by rw [h3]; rfl⟩
      · exact ⟨hx, ht, by simp⟩
    · rintro ⟨h1, h2, h3⟩
      by_cases e : d.k = x.k
      · exact .inr (keys_one hk h1 hx e)
      · exact .inl ⟨h1, h2, by simpa [e] using h3⟩
theorem DueL.pass {L R : List Du} {now : Int} {left : Lit → Bool} {x : Du} (h : DueL L now left R) (hk : Keys L) (hx : x ∈ L) (ht : now < x.t) : DueL L now (fun z => left z && !z.sameKey (keyL x.k)) R := by
  refine ⟨h.nod, fun d => ?_⟩
  rw [h.mem]
  simp only [keyL_same]
  constructor
  · rintro ⟨h1, h2, h3⟩
    exact ⟨h1, h2, by rw [h3]; rfl⟩
  · rintro ⟨h1, h2, h3⟩
    by_cases e : d.k = x.k
    · have := keys_one hk h1 hx e
      subst this
      omega
    · exact ⟨h1, h2, by simpa [e] using h3⟩
theorem DueL.done {L R R' : List Du} {now : Int} {left : Lit → Bool} (h : DueL L now left R) (hl : ∀ kl, left kl = false) (hp : R'.Perm R) (ho : R'.Pairwise fun a b => ltB b a = false) : DueR L now R' := by
  refine ⟨?_, fun d => ?_⟩
  · have hn : R'.Nodup := hp.nodup_iff.2 h.nod
    unfold List.Nodup at hn
    refine (ho.and hn).imp fun {a b} hab => ?_
    cases hlt : ltB a b with
    | true => rfl
    | false => exact absurd (ltB_eq hlt hab.1) hab.2
  · rw [hp.mem_iff, h.mem]
    constructor
    · rintro ⟨h1, h2, _⟩
      exact ⟨h1, h2⟩
    · rintro ⟨h1, h2⟩
      exact ⟨h1, h2, hl _⟩
/-- The first of those that have come. -/
structure NextL (L : List Du) (left : Lit → Bool) (f : Bool) (F : Du) : Prop where
  no : f = false → F = zD ∧ ∀ d ∈ L, left (keyL d.k) = true
  yes : f = true → F ∈ L ∧ left (keyL F.k) = false ∧ ∀ d ∈ L, left (keyL d.k) = false → ltB d F = false
theorem NextL.start {L : List Du} {left : Lit → Bool} (h : ∀ d ∈ L, left (keyL d.k) = true) : NextL L left false zD := ⟨fun _ => ⟨rfl, h⟩, fun h => (by cases h)⟩
theorem NextL.take {L : List Du} {left : Lit → Bool} {f : Bool} {F x : Du} (h : NextL L left f F) (hk : Keys L) (hx : x ∈ L) (hb : f = false ∨ ltB x F = true) : NextL L (fun z => left z && !z.sameKey (keyL x.k)) true x := by
  refine ⟨fun h => (by cases h), fun _ => ⟨hx, (by simp only [keyL_same]; simp), fun d hd hl => ?_⟩⟩
  simp only [keyL_same] at hl
  by_cases e : d.k = x.k
  · rw [keys_one hk hd hx e]
    exact ltB_irrefl x
  · have hl' : left (keyL d.k) = false := by simpa [e] using hl
    cases f with
    | false =>
      have := (h.no rfl).2 d hd
      rw [hl'] at this
      cases this
    | true =>
      have h1 := (h.yes rfl).2.2 d hd hl'
      rcases hb with h2 | h2
      · cases h2
      · cases h3 : ltB d x with
        | false => rfl
        | true =>
          rw [ltB_trans h3 h2] at h1
          cases h1
theorem NextL.pass {L : List Du} {left : Lit → Bool} {F x : Du} (h : NextL L left true F) (hk : Keys L) (hx : x ∈ L) (hb : ltB x F = false) : NextL L (fun z => left z && !z.sameKey (keyL x.k)) true F := by
  obtain ⟨h1, h2, h3⟩ := h.yes rfl
  refine ⟨fun h => (by cases h), fun _ => ⟨h1, (by simp only [h2]; rfl), fun d hd hl => ?_⟩⟩
  simp only [keyL_same] at hl
  by_cases e : d.k = x.k
  · rw [keys_one hk hd hx e]
    exact hb
  · exact h3 d hd (by simpa [e] using hl)
theorem NextL.done {L : List Du} {left : Lit → Bool} {f : Bool} {F : Du} (h : NextL L left f F) (hl : ∀ kl, left kl = false) : F = firstD L ∧ f = decide (0 < L.length) := by
  cases f with
  | false =>
    obtain ⟨rfl, h1⟩ := h.no rfl
    cases L with
    | nil => exact ⟨firstD_nil.symm, rfl⟩
    | cons x r =>
      have := h1 x List.mem_cons_self
      rw [hl] at this
      cases this
  | true =>
    obtain ⟨h1, h2, h3⟩ := h.yes rfl
    refine ⟨(firstD_unique h1 fun x hx => h3 x hx (hl _)).symm, ?_⟩
    have := List.length_pos_of_mem h1
    simp [this]
end Go.Proofs.Ytkhhaokelhmikaa
