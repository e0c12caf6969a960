/- Rows of any elements in memory: what a slice of cells reads as, rows that a call owns, append onto them. No program's function. -/
import Derived.Test.YtmkbbndfdgnakaaBaz
import Derived.Lib.SliceRun
namespace Go.Proofs.Ytmkbbndfdgnakaa
open Go.RowKit
set_option linter.unusedVariables false
set_option linter.unusedSimpArgs false
set_option maxRecDepth 20000

/-- The slice value '.slice A n c' of elements of 'size' cells holds the cells vs, below block B. -/
def RX (w : World) (B : Nat) (A : Option Addr) (n c size : Nat) (vs : List Value) : Prop :=
  vs.length = n * size ∧ n ≤ c ∧ (0 < n → ∃ b off, A = some ⟨b, off, none⟩ ∧ b < B ∧ ∀ j v, vs[j]? = some v → w.cell? ⟨b, off + j, none⟩ = some v)
section
variable {w w' : World} {B B' n c size : Nat} {A : Option Addr} {vs : List Value}
theorem RX.nil (w : World) (B : Nat) (A : Option Addr) (c size : Nat) : RX w B A 0 c size [] := ⟨by simp, Nat.zero_le _, fun h => absurd h (by omega)⟩
theorem RX.keep (h : RX w B A n c size vs) (hk : ∀ p : Addr, p.block < B → w'.cell? p = w.cell? p) : RX w' B A n c size vs :=
  ⟨h.1, h.2.1, fun hn => by
    obtain ⟨b, off, e, hb, hc⟩ := h.2.2 hn
    exact ⟨b, off, e, hb, fun j v hj => (hk ⟨b, off + j, none⟩ hb).trans (hc j v hj)⟩⟩
theorem RX.more (h : RX w B A n c size vs) (hB : B ≤ B') : RX w B' A n c size vs :=
  ⟨h.1, h.2.1, fun hn => by
    obtain ⟨b, off, e, hb, hc⟩ := h.2.2 hn
    exact ⟨b, off, e, by omega, hc⟩⟩
theorem RX.below (h : RX w B A n c size vs) (hb : Below B w w') : RX w' B A n c size vs := h.keep fun _ hp => hb.cell hp
theorem RX.on (h : RX w w.heap.size A n c size vs) (hb : Below w.heap.size w w') : RX w' w'.heap.size A n c size vs := (h.below hb).more hb.size
end
theorem own_rx {w : World} {base size n : Nat} {e : TypeId} {v : Value} {vs : List Value} (hl : vs.length = n * size) (h : w.ownsRow base e size v n vs) : ∃ A c, v = .slice A n c ∧ RX w w.heap.size A n c size vs ∧ ∀ ad, A = some ad → base ≤ ad.block := by
  rcases h.2 with ⟨hv, h0⟩ | ⟨g, cap, cur, hv, hb, hg, hc1, hc2, hc3, hc4⟩
  · subst h0
    have : vs = [] := List.length_eq_zero_iff.1 (by simpa using hl)
    subst this
    exact ⟨none, 0, hv, RX.nil _ _ _ _ _, fun _ h => by cases h⟩
  · refine ⟨_, _, hv, ⟨hl, hc1, fun hn => ⟨g, 0, rfl, (Array.getElem?_eq_some_iff.1 hg).1, fun j u hj => ?_⟩⟩, fun ad h => by injection h with h; subst h; exact hb⟩
    have hjl : j < n * size := by
      have := (List.getElem?_eq_some_iff.1 hj).1
      rwa [hl] at this
    have hcell : cur.toList[j]? = vs[j]? := by
      rw [← hc4, List.getElem?_take, if_pos hjl]
    rw [Nat.zero_add, World.cell?, hg]
    simp only [← Array.getElem?_toList, hcell, hj]
    rfl
theorem flat_get {α β : Type} {f : α → List β} {k : Nat} (h : ∀ x, (f x).length = k) : ∀ (l : List α) (i j : Nat) (hi : i < l.length), j < k → (l.flatMap f)[i * k + j]? = (f l[i])[j]?
  | x :: r, 0, j, _, hj => by
    rw [List.flatMap_cons, Nat.zero_mul, Nat.zero_add, List.getElem?_append_left (by rw [h]; exact hj)]
    rfl
  | x :: r, i + 1, j, hi, hj => by
    have ih := flat_get h r i j (by simpa using hi) hj
    rw [List.flatMap_cons, List.getElem?_append_right (by rw [h, Nat.add_mul]; omega), h, show (i + 1) * k + j - k = i * k + j by rw [Nat.add_mul]; omega]
    exact ih
theorem flat_length {α β : Type} {f : α → List β} {k : Nat} (h : ∀ x, (f x).length = k) (l : List α) : (l.flatMap f).length = l.length * k := by
  induction l with
  | nil => simp
  | cons x r ih => rw [List.flatMap_cons, List.length_append, ih, h, List.length_cons, Nat.add_mul]; omega

/-! ### Numbers -/
def AppG (w : World) (base : Nat) (e : TypeId) (size : Nat) (v : Value) (n : Nat) (xs : List Value) (v' : Value) (w' : World) : Prop :=
  w'.ownsRow base e size v' n xs ∧ w.grownBy w' v.ownBlock ∧ (v'.ownBlock = v.ownBlock ∨ v'.ownBlock = some w.heap.size)
theorem AppG.below {w w0 w' : World} {B base size n n' : Nat} {e : TypeId} {v v' : Value} {xs xs' : List Value} (h : AppG w base e size v n xs v' w') (hb : Below B w0 w) (hB : B ≤ w.heap.size) (hown : w.ownsRow base e size v n' xs') (hbase : B ≤ base) : Below B w0 w' :=
  hb.grown h.2.1 hB fun k hk => by have := (World.ownsRow.lt hown k hk).1; omega

theorem RX.src {w : World} {B n c size : Nat} {A : Option Addr} {vs : List Value} (h : RX w B A n c size vs) (hn : 0 < n) : ∃ ad, A = some ad ∧ ∀ j v, vs[j]? = some v → w.cell? (ad.add j) = some v := by
  obtain ⟨b, off, rfl, hb, hc⟩ := h.2.2 hn
  refine ⟨_, rfl, fun j v hj => ?_⟩
  have e : (⟨b, off, none⟩ : Addr).add j = ⟨b, off + j, none⟩ := by unfold Addr.add; split <;> simp_all
  rw [e]
  exact hc j v hj
theorem run_appendX {w : World} (base : Nat) (t ty e : TypeId) (z : Value) (size bytes : Nat) (ht : Try.prog.underlying t = some (.slice e)) (hinfo : (Try.prog.info? e).map (fun i => (i.zero, i.size, i.bytes)) = some (some z, size, bytes)) (hzs : z.cells.size = size) (hsz : 0 < size)
    (v : Value) (n : Nat) (xs : List Value) (hown : w.ownsRow base e size v n xs) (B : Nat) (A : Option Addr) (m c : Nat) (vs : List Value) (hr : RX w B A m c size vs) (h1 : ∀ u ∈ vs, u.oneCell' = true)
    (h63 : n + m ≤ maxLen) (hbytes : (n + m) * bytes ≤ 140737488355328) (hbase : base ≤ w.heap.size) :
    ∃ v' w', (Builtin.append_ #[t, t] ty #[v, .slice A m c]).run Try.prog w = .ok v' w' ∧ AppG w base e size v (n + m) (xs ++ vs) v' w' := by
  obtain ⟨i0, hi0, hz0, hz1, hz2⟩ := info_parts hinfo
  rcases A with _ | ad
  · have hm : m = 0 := by
      rcases Nat.eq_zero_or_pos m with h0 | h0
      · exact h0
      · obtain ⟨b, off, h, _⟩ := hr.2.2 h0
        cases h
    subst hm
    have hv : vs = [] := List.eq_nil_of_length_eq_zero (by have := hr.1; omega)
    subst hv
    exact ⟨v, w, run_append_nil8 w base t ty e i0 size ht hi0 v n xs hown c, by rw [List.append_nil]; exact hown, World.grownBy.refl w _, .inl rfl⟩
  · have hcells : ∀ j u, vs[j]? = some u → w.cell? (ad.add j) = some u := by
      intro j u hu
      rcases Nat.eq_zero_or_pos m with h0 | h0
      · have hv : vs = [] := List.eq_nil_of_length_eq_zero (by have := hr.1; rw [h0] at this; omega)
        rw [hv] at hu
        cases hu
      · obtain ⟨ad', h, hc⟩ := hr.src h0
        injection h with h
        subst h
        exact hc j u hu
    obtain ⟨v', w', hrun, h2, h3, _, h5⟩ := run_append_own_at (P := Try.prog) w base t ty e i0 z size bytes ht hi0 hz0 hz1 hz2 hzs hsz v n xs hown ad m c vs hr.1 hcells h1 h63 hbytes hbase
    exact ⟨v', w', hrun, h2, h3, h5⟩
theorem wpList_appendX {w : World} {ops : Array Oper} {rest : List Oper} {o : Oper} {a : Act} {Q : Exit → Act → World → Prop} (hgd : o.guard = none) (s x : Operand) (t ty e : TypeId)
    (ho : o.op = .call { callee := .builtin .append, args := #[s, x], argTypes := #[t, t] }) (hty : o.type = ty)
    (z : Value) (size bytes : Nat) (ht : Try.prog.underlying t = some (.slice e)) (hinfo : (Try.prog.info? e).map (fun i => (i.zero, i.size, i.bytes)) = some (some z, size, bytes)) (hzs : z.cells.size = size) (hsz : 0 < size)
    (base : Nat) (v : Value) (n : Nat) (xs : List Value) (hs : a.eval s = v) (hown : w.ownsRow base e size v n xs)
    (B : Nat) (A : Option Addr) (m c : Nat) (vs : List Value) (hx : a.eval x = .slice A m c) (hr : RX w B A m c size vs) (h1 : ∀ u ∈ vs, u.oneCell' = true)
    (h63 : n + m ≤ maxLen) (hbytes : (n + m) * bytes ≤ 140737488355328) (hbase : base ≤ w.heap.size)
    (h : ∀ v' w', AppG w base e size v (n + m) (xs ++ vs) v' w' → wpList Try.prog ops Q rest (a.put o.dst v') w') : wpList Try.prog ops Q (o :: rest) a w :=
  wpList_plain hgd fun K hK => by
    obtain ⟨v', w', hrun, h2⟩ := run_appendX base t ty e z size bytes ht hinfo hzs hsz v n xs hown B A m c vs hr h1 h63 hbytes hbase
    unfold Oper.wp execOp
    simp only [ho, hty, resolve, invoke, builtin, Sem.run_bind, Sem.run_pure, Result.andThen_ok, List.map_toArray, List.map_cons, List.map_nil, hs, hx, hrun]
    exact hK _ _ (h v' w' h2)
/-- .. what such a step leaves below. -/
theorem below_grown {w0 w w' : World} {B : Nat} {v : Value} (hb : Below B w0 w) (hB : B ≤ w.heap.size) (hg : w.grownBy w' v.ownBlock) (ho : ∀ k, v.ownBlock = some k → B ≤ k) : Below B w0 w' :=
  hb.grown hg hB fun k hk => by have := ho k hk; omega
/-- Where an owned row lies. -/
theorem own_block {w : World} {base size n : Nat} {e : TypeId} {A : Option Addr} {m c : Nat} {xs : List Value} (h : w.ownsRow base e size (.slice A m c) n xs) : ∀ ad, A = some ad → base ≤ ad.block ∧ ad.block < w.heap.size := by
  intro ad hA
  subst hA
  exact World.ownsRow.lt h ad.block rfl
theorem own_kept {a b : World} {B size n : Nat} {e : TypeId} {v : Value} {xs : List Value} (h : a.ownsRow B e size v n xs) (hb : Below a.heap.size a b) : b.ownsRow B e size v n xs :=
  World.ownsRow.kept (row := none) h ⟨hb.os, hb.tape, hb.output, hb.size, fun k hk _ => hb.block k hk⟩ (by cases hv : v.ownBlock <;> simp)
theorem own_nil (w : World) (base size : Nat) (e : TypeId) : w.ownsRow base e size (.slice none 0 0) 0 [] := ⟨by simp, .inl ⟨rfl, rfl⟩⟩
end Go.Proofs.Ytmkbbndfdgnakaa
