/- What ctl does, in plain words: which fields a kind has, what Right tells, what Bytes writes, what Read reads of any bytes. No function of the program. -/
import Derived.Test.YtgjncaobcgjefaaNb
import Derived.Test.YtgjncaobcgjefaaBase
namespace Go.Proofs.Ytgjncaobcgjefaa
open Go.RowKit
set_option linter.unusedVariables false
set_option linter.unusedSimpArgs false
set_option maxRecDepth 20000

def Ctl.num (c : Ctl) (n : Int) : Int := if n = 1 then c.cap else if n = 3 then c.peer else if n = 4 then c.height else if n = 5 then c.cls else if n = 6 then c.layer else c.code
def Ctl.zero (c : Ctl) (n : Int) : Bool := if n = 2 then decide (c.layers.length = 0) else decide (c.num n = 0)
def names (k : Int) : List Int := if k = 1 then [1] else if k = 2 then [] else if k = 3 then [2] else if k = 4 then [3, 4, 5] else if k = 5 then [3] else if k = 6 then [3, 4] else if k = 7 then [3, 5] else if k = 8 then [6] else if k = 9 then [6] else if k = 10 then [7] else []
def isK (k : Int) : Bool := decide (1 ≤ k ∧ k ≤ 10)
def Ctl.alone (c : Ctl) (l : List Int) : Bool := (List.range 7).all fun i => l.contains ((i : Int) + 1) || c.zero ((i : Int) + 1)
def rSize (n : Int) : Nat := if n = 1 then 8 else if n = 4 then 2 else 1
def rLeast (n : Int) : Int := if n = 1 then 1 else if n = 4 then 1 else 0
def rMost (n : Int) : Int := if n = 1 then 1099511627776 else if n = 3 then 5 else if n = 4 then 8192 else if n = 5 then 3 else if n = 6 then 2 else 255
def Ctl.fits (c : Ctl) (n : Int) : Int := if n = 2 then (if rightL c.layers = true then 0 else 26) else if c.num n < rLeast n then 1 else if rMost n < c.num n then 1 else 0
def firstE : List Int → Int
  | [] => 0
  | x :: r => if x = 0 then firstE r else x
def Ctl.errP (c : Ctl) : Int := if isK c.kind = false then 12 else if c.alone (names c.kind) = false then 12 else firstE ((names c.kind).map c.fits)
theorem alone_iff (c : Ctl) (l : List Int) : c.alone l = true ↔ ∀ j : Nat, 1 ≤ j → j < 8 → (l.contains (j : Int) || c.zero (j : Int)) = true := by
  unfold Ctl.alone
  rw [List.all_eq_true]
  constructor
  · intro h j h1 h8
    have := h (j - 1) (List.mem_range.2 (by omega))
    rwa [show (((j - 1 : Nat) : Int) + 1) = (j : Int) by omega] at this
  · intro h i hi
    have := h (i + 1) (by omega) (by have := List.mem_range.1 hi; omega)
    rwa [show (((i + 1 : Nat)) : Int) = (i : Int) + 1 by omega] at this
theorem errP_eq (c : Ctl) : c.errP = c.err := by
  obtain ⟨k, p, l, e, h, s, y, d⟩ := c
  have hl : (decide (l.length = 0)) = l.isEmpty := by cases l <;> simp
  unfold Ctl.errP Ctl.err
  by_cases hk : 1 ≤ k ∧ k ≤ 10
  · have hc : k = 1 ∨ k = 2 ∨ k = 3 ∨ k = 4 ∨ k = 5 ∨ k = 6 ∨ k = 7 ∨ k = 8 ∨ k = 9 ∨ k = 10 := by omega
    have a1 : isK k = true := by simp [isK, hk]
    simp only [a1]
    rcases hc with rfl | rfl | rfl | rfl | rfl | rfl | rfl | rfl | rfl | rfl
    all_goals
      simp [Ctl.alone, List.range, List.range.loop, names, Ctl.zero, Ctl.num, Ctl.fits, rLeast, rMost, firstE, Ctl.form, Ctl.args, hasP, hasH, hasK, hasY, hl]
      repeat' split
      all_goals first | rfl | omega | (simp_all; done) | (simp_all; omega)
  · have a1 : isK k = false := by simp [isK]; omega
    have a2 : Ctl.form ⟨k, p, l, e, h, s, y, d⟩ = false := by
      simp only [Ctl.form]
      rw [decide_eq_false hk]
      simp
    simp [a1, a2]
/-! ### Bytes -/
def Ctl.fieldB (c : Ctl) (n : Int) : List UInt8 := if n = 2 then fldB (c.layers.map fun x => (2, layB x)) else fld (UInt8.ofNat n.toNat) (be (c.num n).toNat (rSize n))
theorem fldB_app (l r : List (UInt8 × List UInt8)) : fldB (l ++ r) = fldB l ++ fldB r := List.flatMap_append
theorem body_names {c : Ctl} (h : c.Ok) : (names c.kind).flatMap c.fieldB = c.body := by
  unfold Ctl.body
  rw [fields_of h]
  have hk := h.kind
  obtain ⟨k, p, l, e, ht, s, y, d⟩ := c
  simp only at hk
  have hc : k = 1 ∨ k = 2 ∨ k = 3 ∨ k = 4 ∨ k = 5 ∨ k = 6 ∨ k = 7 ∨ k = 8 ∨ k = 9 ∨ k = 10 := by omega
  clear h hk
  rcases hc with rfl | rfl | rfl | rfl | rfl | rfl | rfl | rfl | rfl | rfl
  all_goals simp [names, Ctl.fieldB, Ctl.num, rSize, fldB, be, fld]
/-! ### Fields that are read -/
def numB (x : List UInt8) : Nat := getN x 0 x.length
def layX (x : List UInt8) : Lay := ⟨⟨(x.drop 6).toArray⟩, getN x 0 4 % 4294967296, (getN x 4 2 : Nat)⟩
def Ctl.lay (c : Ctl) (n : Nat) (x : List UInt8) : Ctl :=
  if n = 1 then { c with cap := wrap64 (numB x) } else if n = 2 then { c with layers := c.layers ++ [layX x] } else if n = 3 then { c with peer := wrap64 (numB x) } else if n = 4 then { c with height := wrap64 (numB x) } else
  if n = 5 then { c with cls := wrap64 (numB x) } else if n = 6 then { c with layer := wrap64 (numB x) } else if n = 7 then { c with code := wrap64 (numB x) } else c
def gatF : Nat → List UInt8 → Ctl → Ctl
  | f + 1, n :: k :: r, c => if r.length < k.toNat then c else gatF f (r.drop k.toNat) (c.lay n.toNat (r.take k.toNat))
  | _, _, c => c
def gat (k : Nat) (b : List UInt8) : Ctl := gatF b.length b ⟨k, 0, [], 0, 0, 0, 0, 0⟩
/-- What Read answers. -/
def rdM (b : List UInt8) : Ctl × Int :=
  if b.length < 3 then (zC, 13) else if b.length - 3 < num ((b.drop 1).take 2) then (zC, 13) else if num ((b.drop 1).take 2) < b.length - 3 then (zC, 12) else
  if (gat (b.getD 0 0).toNat (b.drop 3)).err = 0 ∧ (gat (b.getD 0 0).toNat (b.drop 3)).bytes = b then (gat (b.getD 0 0).toNat (b.drop 3), 0) else (zC, 12)
theorem getN_of {x : List UInt8} {i k : Nat} (h1 : 1 ≤ k) (h8 : k ≤ 8) (h : i + k ≤ x.length) : getN x i k = num ((x.drop i).take k) := by
  have hs : szB k = true := by simp [szB]; omega
  have ht : thB x.length i k = true := by simp [thB]; omega
  simp [getN, hs, ht]
theorem layX_eq {x : List UInt8} (h : 6 ≤ x.length) : layX x = layR x := by
  have h1 : getN x 0 4 = num (x.take 4) := by
    have := getN_of (x := x) (i := 0) (k := 4) (by omega) (by omega) (by omega)
    simpa using this
  have h2 : getN x 4 2 = num ((x.drop 4).take 2) := getN_of (x := x) (i := 4) (k := 2) (by omega) (by omega) (by omega)
  have h3 := num_lt (x.take 4)
  have h4 : (x.take 4).length = 4 := by simp; omega
  rw [h4] at h3
  unfold layX layR
  rw [h1, h2, Nat.mod_eq_of_lt (by simpa using h3)]
theorem numB_eq {x : List UInt8} (h1 : 1 ≤ x.length) (h8 : x.length ≤ 8) : numB x = num x := by
  unfold numB
  have := getN_of (x := x) (i := 0) (k := x.length) h1 h8 (by omega)
  simpa using this
theorem numB_small {x : List UInt8} (h1 : 1 ≤ x.length) (h7 : x.length ≤ 7) : wrap64 (numB x) = (num x : Nat) := by
  rw [numB_eq h1 (by omega)]
  have h3 := num_lt x
  have h4 : 256 ^ x.length ≤ 256 ^ 7 := Nat.pow_le_pow_right (by omega) h7
  have h5 : (256 : Nat) ^ 7 = 72057594037927936 := by decide
  exact wrap_i64 (by unfold I64; omega)
/-- A field that is laid in is put in, if it is one of those that are written. -/
def okF (p : UInt8 × List UInt8) : Prop := p.2.length ≤ 255 ∧ (p.1 = 2 → 6 ≤ p.2.length) ∧ (p.1 ≠ 2 → 1 ≤ p.2.length ∧ p.2.length ≤ 8 ∧ num p.2 < 9223372036854775808)
theorem lay_put (c : Ctl) (p : UInt8 × List UInt8) (h : okF p) : c.lay p.1.toNat p.2 = c.put p := by
  obtain ⟨n, x⟩ := p
  obtain ⟨h1, h2, h3⟩ := h
  simp only at h1 h2 h3
  by_cases hn : n = 2
  · subst hn
    have := layX_eq (h2 rfl)
    simp [Ctl.lay, Ctl.put, this]
  · obtain ⟨h4, h5, h6⟩ := h3 hn
    have hw : wrap64 (numB x) = (num x : Nat) := by
      rw [numB_eq h4 h5]
      exact wrap_i64 (by unfold I64; omega)
    have e : ∀ k : Nat, k < 256 → (n.toNat = k ↔ n = UInt8.ofNat k) := fun k hk => ⟨fun h => by rw [← h]; simp, fun h => by rw [h, UInt8.toNat_ofNat']; omega⟩
    have e1 := e 1 (by omega)
    have e2 := e 2 (by omega)
    have e3 := e 3 (by omega)
    have e4 := e 4 (by omega)
    have e5 := e 5 (by omega)
    have e6 := e 6 (by omega)
    have e7 := e 7 (by omega)
    have hn' : ¬ n = UInt8.ofNat 2 := hn
    simp only [Ctl.lay, Ctl.put, e1, e2, e3, e4, e5, e6, e7, hw, if_neg hn, if_neg hn']
    rfl
theorem gatF_fld : ∀ (l : List (UInt8 × List UInt8)) (f : Nat) (c : Ctl), (∀ p ∈ l, okF p) → l.length ≤ f → gatF f (fldB l) c = l.foldl Ctl.put c
  | [], 0, c, _, _ => rfl
  | [], f + 1, c, _, _ => rfl
  | (n, x) :: r, 0, c, _, h => by simp at h
  | (n, x) :: r, f + 1, c, h, hf => by
    have hx := h (n, x) List.mem_cons_self
    have hk : (UInt8.ofNat x.length).toNat = x.length := by
      rw [UInt8.toNat_ofNat']
      have := hx.1
      simp only at this
      omega
    have ih := gatF_fld r f (c.put (n, x)) (fun p hp => h p (List.mem_cons_of_mem _ hp)) (by simp at hf; omega)
    have e : fldB ((n, x) :: r) = n :: UInt8.ofNat x.length :: (x ++ fldB r) := rfl
    rw [e, gatF, hk, if_neg (by rw [List.length_append]; omega), List.drop_left', List.take_left' rfl, lay_put c (n, x) hx, ih]
    · rfl
    · rfl
theorem be_num_lt (a k m : Nat) (h : a < m) : num (be a k) < m := by
  rw [num_be]
  exact Nat.lt_of_le_of_lt (Nat.mod_le _ _) h
theorem fields_okF {c : Ctl} (h : c.Ok) : ∀ p ∈ c.fields, okF p := by
  rw [fields_of h]
  have hc := h.cap
  have hp := h.peer
  have hh := h.height
  have hs := h.cls
  have hy := h.layer
  have hd := h.code
  have one : ∀ n : UInt8, n ≠ 2 → ∀ a : UInt8, okF (n, [a]) := fun n hn a => ⟨by simp, fun e => absurd e hn, fun _ => ⟨by simp, by simp, by have := a.toNat_lt; simp [num_one]; omega⟩⟩
  have two : ∀ a : Nat, okF (4, be a 2) := fun a => ⟨by simp [be_len], fun e => absurd e (show ¬ (4 : UInt8) = 2 by decide), fun _ => ⟨by simp [be_len], by simp [be_len], by
    have := num_lt (be a 2)
    rw [be_len] at this
    simp only
    omega⟩⟩
  split
  · rename_i hk
    rw [if_pos hk] at hc
    intro p hp
    simp only [List.mem_singleton] at hp
    subst hp
    exact ⟨by simp [be_len], fun e => absurd e (show ¬ (1 : UInt8) = 2 by decide), fun _ => ⟨by simp [be_len], by simp [be_len], be_num_lt _ _ _ (by omega)⟩⟩
  · split
    · rename_i hk
      have hl := h.layers
      rw [if_pos hk] at hl
      intro p hp
      obtain ⟨x, hx, rfl⟩ := List.mem_map.1 hp
      have := layB_len ((rightL_of hl).2.1 x hx)
      exact ⟨by simp only; omega, fun _ => by simp only; omega, fun e => absurd rfl e⟩
    · repeat' split
      all_goals try (intro p hp; cases hp; done)
      all_goals
        intro p hp
        simp only [List.mem_cons, List.not_mem_nil, or_false] at hp
        first
        | (rcases hp with rfl | rfl | rfl <;> first | exact one _ (by decide) _ | exact two _)
        | (rcases hp with rfl | rfl <;> first | exact one _ (by decide) _ | exact two _)
        | (subst hp; exact one _ (by decide) _)
theorem gat_bytes {c : Ctl} (h : c.Ok) (hi : ∀ x ∈ c.layers, x.In) : gat (c.bytes.getD 0 0).toNat (c.bytes.drop 3) = c := by
  have hh := bytes_head h
  unfold gat
  rw [hh.2.2, hh.1]
  have hl : c.fields.length ≤ c.body.length := by
    unfold Ctl.body
    generalize c.fields = l
    induction l with
    | nil => simp
    | cons p r ih =>
      have e : fldB (p :: r) = fld p.1 p.2 ++ fldB r := rfl
      rw [e, List.length_append]
      simp only [fld, List.length_cons]
      omega
  have h1 := gatF_fld c.fields c.body.length ⟨c.kind, 0, [], 0, 0, 0, 0, 0⟩ (fields_okF h) hl
  unfold Ctl.body at h1 ⊢
  rw [h1]
  exact put_fields h hi
theorem rd_bytes {c : Ctl} (h : c.Ok) (hi : ∀ x ∈ c.layers, x.In) : rdM c.bytes = (c, 0) := by
  have h1 := bytes_len c
  have h2 := (bytes_head h).2.1
  have h3 := gat_bytes h hi
  have h0 := (Ctl.ok_iff c).2 h
  unfold rdM
  rw [if_neg (by omega), if_neg (by omega), if_neg (by omega), h3, if_pos ⟨h0, rfl⟩]
theorem rd_cut {c : Ctl} (h : c.Ok) {k : Nat} (hk : k < c.bytes.length) : rdM (c.bytes.take k) = (zC, 13) := by
  have h1 := bytes_cut h hk
  have h2 : (c.bytes.take k).length = k := by rw [List.length_take]; omega
  unfold rdM
  rw [h2]
  rcases h1 with h1 | h1
  · rw [if_pos h1]
  · rw [if_neg (by omega), if_pos (by omega)]
theorem rd_more {c : Ctl} (h : c.Ok) (m : UInt8) : rdM (c.bytes ++ [m]) = (zC, 12) := by
  have h1 := bytes_len c
  have h2 := (bytes_head h).2.1
  have h3 : num (((c.bytes ++ [m]).drop 1).take 2) = c.body.length := by
    rw [List.drop_append_of_le_length (by omega), List.take_append_of_le_length (by rw [List.length_drop]; omega), h2]
  unfold rdM
  rw [h3, List.length_append, h1, List.length_singleton, if_neg (by omega), if_neg (by omega), if_pos (by omega)]
theorem rd_or (b : List UInt8) : ((rdM b).2 = 0 ∧ (rdM b).1.err = 0 ∧ (rdM b).1.bytes = b) ∨ ((rdM b).2 = 13 ∧ (rdM b).1 = zC) ∨ ((rdM b).2 = 12 ∧ (rdM b).1 = zC) := by
  unfold rdM
  split
  · simp
  · split
    · simp
    · split
      · simp
      · split
        · rename_i h
          exact .inl ⟨rfl, h.1, h.2⟩
        · simp
end Go.Proofs.Ytgjncaobcgjefaa
