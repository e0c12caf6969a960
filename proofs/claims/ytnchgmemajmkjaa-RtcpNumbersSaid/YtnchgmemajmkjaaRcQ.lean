/- Reports that are read: words of bytes, what a report's words are, when they are right. Plain mathematics. -/
import Derived.Test.YtnchgmemajmkjaaRcW
import Derived.Test.YtnchgmemajmkjaaRcO
namespace Go.Proofs.Ytnchgmemajmkjaa
set_option linter.unusedVariables false
set_option linter.unusedSimpArgs false
set_option maxRecDepth 20000

theorem be_four (a b c d : UInt8) : be (num [a, b, c, d]) 4 = [a, b, c, d] := by
  have ha := a.toNat_lt
  have hb := b.toNat_lt
  have hc := c.toNat_lt
  have hd := d.toNat_lt
  have hn : num [a, b, c, d] = ((a.toNat * 256 + b.toNat) * 256 + c.toNat) * 256 + d.toNat := by simp [num]
  rw [hn, be_head 3, be_head 2, be_head 1, be_head 0]
  have h0 : be (((a.toNat * 256 + b.toNat) * 256 + c.toNat) * 256 + d.toNat) 0 = [] := rfl
  rw [h0]
  have e : ∀ (x : UInt8) (n : Nat), n % 256 = x.toNat → UInt8.ofNat n = x := fun x n h => by
    apply UInt8.toNat_inj.1
    rw [UInt8.toNat_ofNat']
    exact h
  rw [e a _ (by omega), e b _ (by omega), e c _ (by omega), e d _ (by omega)]
theorem num_four (a b c d : UInt8) : num [a, b, c, d] < 4294967296 := by
  have ha := a.toNat_lt
  have hb := b.toNat_lt
  have hc := c.toNat_lt
  have hd := d.toNat_lt
  have hn : num [a, b, c, d] = ((a.toNat * 256 + b.toNat) * 256 + c.toNat) * 256 + d.toNat := by simp [num]
  rw [hn]
  omega
/-- A row of bytes as words (what is left over is left out). -/
def wsOf : List UInt8 → List Nat
  | a :: b :: c :: d :: r => num [a, b, c, d] :: wsOf r
  | _ => []
theorem wB_ws : ∀ (n : Nat) (l : List UInt8), l.length = 4 * n → wB (wsOf l) = l ∧ (wsOf l).length = n ∧ ∀ x ∈ wsOf l, x < 4294967296
  | 0, l, h => by
    have : l = [] := List.eq_nil_of_length_eq_zero (by omega)
    subst this
    exact ⟨rfl, rfl, fun x hx => by cases hx⟩
  | n + 1, l, h => by
    match l, h with
    | a :: b :: c :: d :: r, h =>
      obtain ⟨h1, h2, h3⟩ := wB_ws n r (by simp at h; omega)
      refine ⟨?_, by simp [wsOf, h2], fun x hx => ?_⟩
      · show be (num [a, b, c, d]) 4 ++ wB (wsOf r) = _
        rw [be_four, h1]
        rfl
      · rcases List.mem_cons.1 hx with hx | hx
        · subst hx
          exact num_four a b c d
        · exact h3 x hx
    | [], h => simp at h
    | [a], h => simp at h; omega
    | [a, b], h => simp at h; omega
    | [a, b, c], h => simp at h; omega
theorem wB_cons (x : Nat) (r : List Nat) : wB (x :: r) = be x 4 ++ wB r := rfl
/-- The i-th word, read. -/
theorem get_w : ∀ (ws : List Nat) (i : Nat) (hw : ∀ x ∈ ws, x < 4294967296), getN (wB ws) (4 * (i : Int)) 4 = ws.getD i 0
  | [], i, _ => by
    unfold getN
    rw [if_neg]
    · simp
    · rintro ⟨_, h⟩
      simp only [thB, wB, List.flatMap_nil, List.length_nil, decide_eq_true_eq] at h
      omega
  | x :: r, 0, hw => by
    have hx := hw x (by simp)
    have hl := wB_len (x :: r)
    rw [List.length_cons] at hl
    unfold getN
    rw [if_pos ⟨by decide, by simp only [thB, decide_eq_true_eq, hl]; omega⟩]
    rw [show (4 * ((0 : Nat) : Int)).toNat = 0 by decide, List.drop_zero, wB_cons]
    have : (be x 4 ++ wB r).take (Int.toNat 4) = be x 4 := by
      rw [List.take_append_of_le_length (by rw [be_len]; decide)]
      exact List.take_of_length_le (by rw [be_len]; decide)
    rw [this, num_be]
    simp
    omega
  | x :: r, i + 1, hw => by
    have ih := get_w r i (fun y hy => hw y (by simp [hy]))
    have hl := wB_len (x :: r)
    have hl' := wB_len r
    rw [List.length_cons] at hl
    unfold getN at ih ⊢
    have e1 : thB (wB (x :: r)).length (4 * ((i + 1 : Nat) : Int)) 4 = thB (wB r).length (4 * (i : Int)) 4 := by
      unfold thB
      rw [hl, hl']
      simp only [decide_eq_decide]
      omega
    have e2 : (wB (x :: r)).drop (4 * ((i + 1 : Nat) : Int)).toNat = (wB r).drop (4 * (i : Int)).toNat := by
      have h1 : (4 * ((i + 1 : Nat) : Int)).toNat = 4 + (4 * (i : Int)).toNat := by omega
      have h2 : (be x 4 ++ wB r).drop 4 = wB r := by
        have := List.drop_left (l₁ := be x 4) (l₂ := wB r)
        rwa [be_len] at this
      rw [h1, wB_cons, ← List.drop_drop, h2]
    rw [e1, e2]
    simpa using ih
/-! ### What words are read as -/
def pairs : List Nat → List (Nat × Nat)
  | a :: b :: r => (a, b) :: pairs r
  | _ => []
def tupR (p : Nat × Nat) : Tup := ⟨p.1, opN (p.2 / 67108864) (p.2 / 512 % 131072), ((p.2 % 512 : Nat) : Int)⟩
def parseR (t c : Int) (ws : List Nat) : Rep :=
  if oursTC t c = false then ⟨6, 0, 0, [], [], [], 0, t, c, wB ws⟩
  else if t = 205 then ⟨c - 2, ws.getD 0 0, 0, (pairs (ws.drop 2)).map tupR, [], [], 0, 0, 0, []⟩
  else if c = 1 then ⟨3, ws.getD 0 0, ws.getD 1 0, [], [], [], 0, 0, 0, []⟩
  else if c = 4 then ⟨4, ws.getD 0 0, 0, [], (pairs (ws.drop 2)).map (·.1), (pairs (ws.drop 2)).map (fun p => ((p.2 / 16777216 : Nat) : Int)), 0, 0, 0, []⟩
  else ⟨5, ws.getD 0 0, 0, [], ws.drop 4, [], opN (ws.getD 3 0 / 262144 % 64) (ws.getD 3 0 % 262144), 0, 0, []⟩
theorem pairs_len : ∀ (l : List Nat), (pairs l).length = l.length / 2
  | [] => rfl
  | [a] => by simp [pairs]
  | a :: b :: r => by
    have := pairs_len r
    simp only [pairs, List.length_cons, this]
    omega
theorem pairs_at : ∀ (l : List Nat) (q : Nat) (h : q < (pairs l).length), (pairs l)[q] = (l.getD (2 * q) 0, l.getD (2 * q + 1) 0)
  | a :: b :: r, 0, _ => rfl
  | a :: b :: r, q + 1, h => by
    have := pairs_at r q (by simpa [pairs] using h)
    simp only [pairs, List.getElem_cons_succ, this]
    rw [show 2 * (q + 1) = 2 * q + 1 + 1 by omega]
    simp
  | [], q, h => by simp [pairs] at h
  | [a], q, h => by simp [pairs] at h
end Go.Proofs.Ytnchgmemajmkjaa
