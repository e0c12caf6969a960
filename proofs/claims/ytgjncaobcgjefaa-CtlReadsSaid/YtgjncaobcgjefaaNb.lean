/- Control messages in plain words: which may be, what their bytes are, that the bytes tell the message. No function of the program. Control messages in plain words: how long a right one's fields are; that its bytes tell it. No function of the program. Control messages in plain words: the bytes of right messages tell them; their head tells how long they are. No function of the program. Control messages in plain words: fields that are put again, one by one, make the message; bytes with one more are of none; cut off they say more than there is. No function of the program. Layers that are none: turned about, with one Ssrc, with one name, twice. No function of the program. -/
import Derived.Test.YtgjncaobcgjefaaLyM
namespace Go.Proofs.Ytgjncaobcgjefaa
set_option linter.unusedVariables false
set_option linter.unusedSimpArgs false
set_option maxRecDepth 20000

structure Ctl where
  kind : Int
  cap : Int
  layers : List Lay
  peer : Int
  height : Int
  cls : Int
  layer : Int
  code : Int
def zC : Ctl := ⟨0, 0, [], 0, 0, 0, 0, 0⟩
/-- Which fields a kind has. -/
def hasP (k : Int) : Bool := decide (4 ≤ k ∧ k ≤ 7)
def hasH (k : Int) : Bool := decide (k = 4 ∨ k = 6)
def hasK (k : Int) : Bool := decide (k = 4 ∨ k = 7)
def hasY (k : Int) : Bool := decide (k = 8 ∨ k = 9)
/-! ### Layers that may be published -/
def apart (x : Lay) (l : List Lay) : Bool := l.all fun y => decide (y.ssrc ≠ x.ssrc) && decide (foldB y.rid ≠ foldB x.rid)
def rises : List Lay → Bool
  | x :: y :: r => decide (x.height < y.height) && rises (y :: r)
  | _ => true
def pairs : List Lay → Bool
  | x :: r => apart x r && pairs r
  | [] => true
def rightL (l : List Lay) : Bool := decide (1 ≤ l.length ∧ l.length ≤ 3) && l.all okL && rises l && pairs l
/-! ### Messages that may be -/
def Ctl.form (c : Ctl) : Bool := decide (1 ≤ c.kind ∧ c.kind ≤ 10) && (decide (c.kind = 1) || decide (c.cap = 0)) && (decide (c.kind = 3) || c.layers.isEmpty) && (hasP c.kind || decide (c.peer = 0)) && (hasH c.kind || decide (c.height = 0)) && (hasK c.kind || decide (c.cls = 0)) && (hasY c.kind || decide (c.layer = 0)) && (decide (c.kind = 10) || decide (c.code = 0))
def Ctl.args (c : Ctl) : Bool := (!decide (c.kind = 1) || decide (1 ≤ c.cap ∧ c.cap ≤ 1099511627776)) && decide (0 ≤ c.peer ∧ c.peer < 6) && (!hasH c.kind || decide (1 ≤ c.height ∧ c.height ≤ 8192)) && decide (0 ≤ c.cls ∧ c.cls ≤ 3) && decide (0 ≤ c.layer ∧ c.layer < 3) && decide (0 ≤ c.code ∧ c.code ≤ 255)
def Ctl.err (c : Ctl) : Int := if c.form = false then 12 else if c.args = false then 1 else if c.kind = 3 ∧ rightL c.layers = false then 26 else 0
/-! ### Bytes -/
def fld (n : UInt8) (x : List UInt8) : List UInt8 := n :: UInt8.ofNat x.length :: x
def layB (x : Lay) : List UInt8 := be x.ssrc 4 ++ be x.height.toNat 2 ++ x.rid.data.toList
/-- The fields, each with its name. -/
def Ctl.fields (c : Ctl) : List (UInt8 × List UInt8) :=
  (if c.kind = 1 then [(1, be c.cap.toNat 8)] else []) ++ c.layers.map (fun x => (2, layB x)) ++ (if hasP c.kind then [(3, [UInt8.ofNat c.peer.toNat])] else []) ++ (if hasH c.kind then [(4, be c.height.toNat 2)] else []) ++
    (if hasK c.kind then [(5, [UInt8.ofNat c.cls.toNat])] else []) ++ (if hasY c.kind then [(6, [UInt8.ofNat c.layer.toNat])] else []) ++ (if c.kind = 10 then [(7, [UInt8.ofNat c.code.toNat])] else [])
def fldB (l : List (UInt8 × List UInt8)) : List UInt8 := l.flatMap fun p => fld p.1 p.2
def Ctl.body (c : Ctl) : List UInt8 := fldB c.fields
def Ctl.bytes (c : Ctl) : List UInt8 := UInt8.ofNat c.kind.toNat :: (be c.body.length 2 ++ c.body)
/-! ### Fields that are read -/
/-- The fields of a row of bytes; none if it is not made of whole ones. -/
def fldR : Nat → List UInt8 → Option (List (UInt8 × List UInt8))
  | _, [] => some []
  | 0, _ :: _ => none
  | f + 1, n :: k :: r => if r.length < k.toNat then none else (fldR f (r.drop k.toNat)).map ((n, r.take k.toNat) :: ·)
  | _ + 1, [_] => none
theorem fldR_nil (f : Nat) : fldR f [] = some [] := by cases f <;> rfl
theorem fldR_fld : ∀ (l : List (UInt8 × List UInt8)) (f : Nat), (∀ p ∈ l, p.2.length ≤ 255) → l.length ≤ f → fldR f (fldB l) = some l
  | [], f, _, _ => fldR_nil f
  | (n, x) :: r, 0, _, h => by simp at h
  | (n, x) :: r, f + 1, h, hf => by
    have hx := h (n, x) List.mem_cons_self
    have hk : (UInt8.ofNat x.length).toNat = x.length := by
      rw [UInt8.toNat_ofNat']
      simp only at hx
      omega
    have ih := fldR_fld r f (fun p hp => h p (List.mem_cons_of_mem _ hp)) (by simp at hf; omega)
    have e : fldB ((n, x) :: r) = n :: UInt8.ofNat x.length :: (x ++ fldB r) := rfl
    rw [e, fldR, hk, if_neg (by rw [List.length_append]; omega), List.drop_left', List.take_left' rfl, ih]
    · rfl
    · rfl
theorem fldB_inj {l r : List (UInt8 × List UInt8)} (hl : ∀ p ∈ l, p.2.length ≤ 255) (hr : ∀ p ∈ r, p.2.length ≤ 255) (e : fldB l = fldB r) : l = r := by
  have h1 := fldR_fld l (l.length + r.length) hl (by omega)
  have h2 := fldR_fld r (l.length + r.length) hr (by omega)
  rw [e, h2] at h1
  exact (Option.some.inj h1).symm
end Go.Proofs.Ytgjncaobcgjefaa
namespace Go.Proofs.Ytgjncaobcgjefaa
open Go.Lib
set_option linter.unusedVariables false
set_option linter.unusedSimpArgs false
set_option maxRecDepth 20000

theorem decodeN_small (n b0 b1 b2 b3 : Nat) (h : (decodeN n b0 b1 b2 b3).1 < 128) : (decodeN n b0 b1 b2 b3).2 = 1 := by
  unfold decodeN at h ⊢
  repeat' split
  all_goals first | rfl | (exfalso; simp_all; done) | (exfalso; simp_all; omega)
theorem rn_small : ∀ (n : Nat) (l : List UInt8), l.length ≤ n → (∀ r ∈ rn l, r < 128) → (rn l).length = l.length
  | 0, l, h, _ => by
    have : l = [] := List.length_eq_zero_iff.1 (by omega)
    subst this
    rfl
  | n + 1, l, h, hr => by
    by_cases hn : l = []
    · subst hn
      rfl
    · have h1 := rn_step l hn
      rw [h1] at hr
      have h2 : (dL l).2 = 1 := decodeN_small _ _ _ _ _ (hr _ List.mem_cons_self)
      rw [h2] at h1 hr
      have hp : 0 < l.length := List.length_pos_iff.2 hn
      have ih := rn_small n (l.drop 1) (by rw [List.length_drop]; omega) fun r hx => hr r (List.mem_cons_of_mem _ hx)
      rw [h1, List.length_cons, ih, List.length_drop]
      omega
theorem right_size {s : ByteArray} (h : right s = true) : 1 ≤ s.size ∧ s.size ≤ 8 := by
  simp only [right, Bool.and_eq_true, decide_eq_true_eq] at h
  obtain ⟨h1, h2, h3⟩ := h
  have e := rn_small _ s.data.toList (Nat.le_refl _) fun r hr => by
    have := List.all_eq_true.1 h3 r hr
    simp only [fitR, decide_eq_true_eq] at this
    omega
  have hs : s.data.toList.length = s.size := rfl
  unfold cnt at h1 h2
  omega
theorem okL_of {x : Lay} (h : okL x = true) : right x.rid = true ∧ 1 ≤ x.height ∧ x.height ≤ 8192 := by
  simp only [okL, Bool.and_eq_true, decide_eq_true_eq] at h
  exact ⟨h.1, h.2.1, h.2.2⟩
theorem layB_len {x : Lay} (h : okL x = true) : (layB x).length = 6 + x.rid.size ∧ x.rid.size ≤ 8 ∧ 1 ≤ x.rid.size := by
  have h1 := right_size (okL_of h).1
  have hs : x.rid.data.toList.length = x.rid.size := rfl
  refine ⟨?_, h1.2, h1.1⟩
  simp only [layB, List.length_append, be_len, hs]
theorem rightL_of {l : List Lay} (h : rightL l = true) : (1 ≤ l.length ∧ l.length ≤ 3) ∧ (∀ x ∈ l, okL x = true) ∧ rises l = true ∧ pairs l = true := by
  simp only [rightL, Bool.and_eq_true, decide_eq_true_eq] at h
  exact ⟨h.1.1.1, fun x hx => List.all_eq_true.1 h.1.1.2 x hx, h.1.2, h.2⟩
/-- What a right message is, fact by fact. -/
structure Ctl.Ok (c : Ctl) : Prop where
  kind : 1 ≤ c.kind ∧ c.kind ≤ 10
  cap : if c.kind = 1 then 1 ≤ c.cap ∧ c.cap ≤ 1099511627776 else c.cap = 0
  layers : if c.kind = 3 then rightL c.layers = true else c.layers = []
  peer : (0 ≤ c.peer ∧ c.peer < 6) ∧ (¬ (4 ≤ c.kind ∧ c.kind ≤ 7) → c.peer = 0)
  height : if c.kind = 4 ∨ c.kind = 6 then 1 ≤ c.height ∧ c.height ≤ 8192 else c.height = 0
  cls : (0 ≤ c.cls ∧ c.cls ≤ 3) ∧ (¬ (c.kind = 4 ∨ c.kind = 7) → c.cls = 0)
  layer : (0 ≤ c.layer ∧ c.layer < 3) ∧ (¬ (c.kind = 8 ∨ c.kind = 9) → c.layer = 0)
  code : (0 ≤ c.code ∧ c.code ≤ 255) ∧ (c.kind ≠ 10 → c.code = 0)
theorem Ctl.ok_iff (c : Ctl) : c.err = 0 ↔ c.Ok := by
  obtain ⟨k, p, l, e, h, s, y, d⟩ := c
  constructor
  · intro h0
    unfold Ctl.err at h0
    split at h0
    · cases h0
    · split at h0
      · cases h0
      · split at h0
        · cases h0
        · rename_i f1 f2 f3
          have f1 : Ctl.form ⟨k, p, l, e, h, s, y, d⟩ = true := by simpa using f1
          have f2 : Ctl.args ⟨k, p, l, e, h, s, y, d⟩ = true := by simpa using f2
          simp only [Ctl.form, Ctl.args, hasP, hasH, hasK, hasY, Bool.and_eq_true, Bool.or_eq_true, decide_eq_true_eq, Bool.not_eq_true', decide_eq_false_iff_not, List.isEmpty_iff] at f1 f2
          simp only [not_and] at f3
          refine ⟨by simp only; omega, ?_, ?_, by simp only; omega, ?_, by simp only; omega, by simp only; omega, by simp only; omega⟩
          · simp only; split <;> omega
          · simp only
            split
            · rename_i hk
              have := f3 hk
              simpa using this
            · rename_i hk
              rcases f1.1.1.1.1.1.2 with h1 | h1
              · exact absurd h1 hk
              · exact h1
          · simp only; split <;> omega
  · intro ⟨h1, h2, h3, h4, h5, h6, h7, h8⟩
    simp only at h1 h2 h3 h4 h5 h6 h7 h8
    have f1 : Ctl.form ⟨k, p, l, e, h, s, y, d⟩ = true := by
      simp only [Ctl.form, hasP, hasH, hasK, hasY, Bool.and_eq_true, Bool.or_eq_true, decide_eq_true_eq, List.isEmpty_iff]
      refine ⟨⟨⟨⟨⟨⟨⟨h1, ?_⟩, ?_⟩, ?_⟩, ?_⟩, ?_⟩, ?_⟩, ?_⟩
      · split at h2 <;> omega
      · split at h3
        · exact .inl ‹_›
        · exact .inr h3
      · omega
      · split at h5 <;> omega
      · omega
      · omega
      · omega
    have f2 : Ctl.args ⟨k, p, l, e, h, s, y, d⟩ = true := by
      simp only [Ctl.args, hasP, hasH, hasK, hasY, Bool.and_eq_true, Bool.or_eq_true, decide_eq_true_eq, Bool.not_eq_true', decide_eq_false_iff_not]
      refine ⟨⟨⟨⟨⟨?_, h4.1⟩, ?_⟩, h6.1⟩, h7.1⟩, h8.1⟩
      · split at h2 <;> omega
      · split at h5 <;> omega
    unfold Ctl.err
    rw [if_neg (by rw [f1]; decide), if_neg (by rw [f2]; decide), if_neg]
    rintro ⟨hk, hf⟩
    simp only at hk hf
    rw [if_pos hk, hf] at h3
    cases h3
end Go.Proofs.Ytgjncaobcgjefaa
namespace Go.Proofs.Ytgjncaobcgjefaa
set_option linter.unusedVariables false
set_option linter.unusedSimpArgs false
set_option maxRecDepth 20000

theorem be_inj {a b k : Nat} (ha : a < 256 ^ k) (hb : b < 256 ^ k) (h : be a k = be b k) : a = b := by
  have h1 := congrArg num h
  rw [num_be, num_be, Nat.mod_eq_of_lt ha, Nat.mod_eq_of_lt hb] at h1
  exact h1
theorem byte_inj {a b : Nat} (ha : a < 256) (hb : b < 256) (h : UInt8.ofNat a = UInt8.ofNat b) : a = b := by
  have h1 := congrArg UInt8.toNat h
  rw [UInt8.toNat_ofNat', UInt8.toNat_ofNat'] at h1
  omega
theorem layB_inj {x y : Lay} (hx : x.In) (hy : y.In) (kx : okL x = true) (ky : okL y = true) (h : layB x = layB y) : x = y := by
  have ix := okL_of kx
  have iy := okL_of ky
  have sx := hx.ssrc
  have sy := hy.ssrc
  unfold layB at h
  have h1 := List.append_inj h (by rw [List.length_append, List.length_append, be_len, be_len, be_len, be_len])
  have h2 := List.append_inj h1.1 (by rw [be_len, be_len])
  have e1 := be_inj (by omega) (by omega) h2.1
  have e2 := be_inj (by omega) (by omega) h2.2
  obtain ⟨⟨⟨r1⟩⟩, s1, h1'⟩ := x
  obtain ⟨⟨⟨r2⟩⟩, s2, h2'⟩ := y
  simp only at e1 e2 h1 ix iy
  have e3 : h1' = h2' := by omega
  have e4 : r1 = r2 := h1.2
  subst e1 e3 e4
  rfl
theorem map_inj_on {α β : Type} {f : α → β} : ∀ {l r : List α}, (∀ x ∈ l, ∀ y ∈ r, f x = f y → x = y) → l.map f = r.map f → l = r
  | [], [], _, _ => rfl
  | [], _ :: _, _, h => by simp at h
  | _ :: _, [], _, h => by simp at h
  | x :: l, y :: r, hi, h => by
    simp only [List.map_cons, List.cons.injEq] at h
    rw [hi x List.mem_cons_self y List.mem_cons_self h.1, map_inj_on (fun a ha b hb => hi a (List.mem_cons_of_mem _ ha) b (List.mem_cons_of_mem _ hb)) h.2]
/-- The fields of a right message, kind by kind. -/
theorem fields_of {c : Ctl} (h : c.Ok) :
    c.fields = if c.kind = 1 then [(1, be c.cap.toNat 8)] else if c.kind = 3 then c.layers.map (fun x => (2, layB x)) else if c.kind = 4 then [(3, [UInt8.ofNat c.peer.toNat]), (4, be c.height.toNat 2), (5, [UInt8.ofNat c.cls.toNat])] else
      if c.kind = 5 then [(3, [UInt8.ofNat c.peer.toNat])] else if c.kind = 6 then [(3, [UInt8.ofNat c.peer.toNat]), (4, be c.height.toNat 2)] else if c.kind = 7 then [(3, [UInt8.ofNat c.peer.toNat]), (5, [UInt8.ofNat c.cls.toNat])] else
      if c.kind = 8 ∨ c.kind = 9 then [(6, [UInt8.ofNat c.layer.toNat])] else if c.kind = 10 then [(7, [UInt8.ofNat c.code.toNat])] else [] := by
  have hl : c.kind ≠ 3 → c.layers = [] := fun hk => by have := h.layers; rwa [if_neg hk] at this
  have hk := h.kind
  obtain ⟨k, p, l, e, ht, s, y, d⟩ := c
  simp only at hk hl
  have hc : k = 1 ∨ k = 2 ∨ k = 3 ∨ k = 4 ∨ k = 5 ∨ k = 6 ∨ k = 7 ∨ k = 8 ∨ k = 9 ∨ k = 10 := by omega
  rcases hc with rfl | rfl | rfl | rfl | rfl | rfl | rfl | rfl | rfl | rfl
  all_goals simp [Ctl.fields, hasP, hasH, hasK, hasY, hl]
theorem fields_len {c : Ctl} (h : c.Ok) : (∀ p ∈ c.fields, p.2.length ≤ 14) ∧ c.fields.length ≤ 3 := by
  rw [fields_of h]
  have hl := h.layers
  split
  · simp [be_len]
  · split
    · rename_i hk
      rw [if_pos hk] at hl
      have h1 := rightL_of hl
      refine ⟨fun p hp => ?_, by rw [List.length_map]; exact h1.1.2⟩
      obtain ⟨x, hx, rfl⟩ := List.mem_map.1 hp
      have := layB_len (h1.2.1 x hx)
      show (layB x).length ≤ 14
      omega
    · repeat' split
      all_goals simp [be_len]
theorem fields_inj {a b : Ctl} (ha : a.Ok) (hb : b.Ok) (ia : ∀ x ∈ a.layers, x.In) (ib : ∀ x ∈ b.layers, x.In) (hk : a.kind = b.kind) (e : a.fields = b.fields) : a = b := by
  rw [fields_of ha, fields_of hb, ← hk] at e
  obtain ⟨k, p, l, r, ht, s, y, d⟩ := a
  obtain ⟨k', p', l', r', ht', s', y', d'⟩ := b
  obtain ⟨a1, a2, a3, a4, a5, a6, a7, a8⟩ := ha
  obtain ⟨b1, b2, b3, b4, b5, b6, b7, b8⟩ := hb
  simp only at *
  subst hk
  have hc : k = 1 ∨ k = 2 ∨ k = 3 ∨ k = 4 ∨ k = 5 ∨ k = 6 ∨ k = 7 ∨ k = 8 ∨ k = 9 ∨ k = 10 := by omega
  have hll : k ≠ 3 → l = l' := fun h3 => by rw [if_neg h3] at a3 b3; rw [a3, b3]
  have hl3 : k = 3 → l.map (fun x => ((2 : UInt8), layB x)) = l'.map (fun x => (2, layB x)) → l = l' := fun h3 he => by
    rw [if_pos h3] at a3 b3
    refine map_inj_on (fun x hx y hy hxy => ?_) he
    simp only [Prod.mk.injEq, true_and] at hxy
    exact layB_inj (ia x hx) (ib y hy) ((rightL_of a3).2.1 x hx) ((rightL_of b3).2.1 y hy) hxy
  have i8 := fun (x y : Nat) (h1 : x < 256) (h2 : y < 256) (h : UInt8.ofNat x = UInt8.ofNat y) => byte_inj h1 h2 h
  have j2 := fun (x y : Nat) (h1 : x < 65536) (h2 : y < 65536) (h : be x 2 = be y 2) => be_inj (k := 2) h1 h2 h
  have j8 := fun (x y : Nat) (h1 : x < 18446744073709551616) (h2 : y < 18446744073709551616) (h : be x 8 = be y 8) => be_inj (k := 8) h1 h2 h
  clear a3 b3
  rcases hc with rfl | rfl | rfl | rfl | rfl | rfl | rfl | rfl | rfl | rfl
  · simp only [if_true, List.cons.injEq, Prod.mk.injEq, true_and, and_true] at e a2 b2
    have := j8 _ _ (by omega) (by omega) e
    have := hll (by decide)
    subst this
    simp at a5 b5
    congr 1 <;> omega
  · have := hll (by decide)
    subst this
    simp at a2 b2 a5 b5
    congr 1 <;> omega
  · simp at e a2 b2 a5 b5
    have := hl3 rfl (by simpa using e)
    subst this
    congr 1 <;> omega
  · simp at e a2 b2 a5 b5
    have h1 := i8 _ _ (by omega) (by omega) e.1
    have h2 := j2 _ _ (by omega) (by omega) e.2.1
    have h3 := i8 _ _ (by omega) (by omega) e.2.2
    have := hll (by decide)
    subst this
    congr 1 <;> omega
  · simp at e a2 b2 a5 b5
    have h1 := i8 _ _ (by omega) (by omega) e
    have := hll (by decide)
    subst this
    congr 1 <;> omega
  · simp at e a2 b2 a5 b5
    have h1 := i8 _ _ (by omega) (by omega) e.1
    have h2 := j2 _ _ (by omega) (by omega) e.2
    have := hll (by decide)
    subst this
    congr 1 <;> omega
  · simp at e a2 b2 a5 b5
    have h1 := i8 _ _ (by omega) (by omega) e.1
    have h2 := i8 _ _ (by omega) (by omega) e.2
    have := hll (by decide)
    subst this
    congr 1 <;> omega
  · simp at e a2 b2 a5 b5
    have h1 := i8 _ _ (by omega) (by omega) e
    have := hll (by decide)
    subst this
    congr 1 <;> omega
  · simp at e a2 b2 a5 b5
    have h1 := i8 _ _ (by omega) (by omega) e
    have := hll (by decide)
    subst this
    congr 1 <;> omega
  · simp at e a2 b2 a5 b5
    have h1 := i8 _ _ (by omega) (by omega) e
    have := hll (by decide)
    subst this
    congr 1 <;> omega
theorem fldB_len {l : List (UInt8 × List UInt8)} (h : ∀ p ∈ l, p.2.length ≤ 14) : (fldB l).length ≤ 16 * l.length := by
  induction l with
  | nil => simp [fldB]
  | cons p r ih =>
    have h1 := h p List.mem_cons_self
    have h2 := ih fun q hq => h q (List.mem_cons_of_mem _ hq)
    have e : fldB (p :: r) = fld p.1 p.2 ++ fldB r := rfl
    rw [e, List.length_append]
    simp only [fld, List.length_cons]
    omega
theorem body_len {c : Ctl} (h : c.Ok) : c.body.length ≤ 48 := by
  have h1 := fields_len h
  have h2 := fldB_len h1.1
  unfold Ctl.body
  omega
theorem bytes_len (c : Ctl) : c.bytes.length = 3 + c.body.length := by
  simp [Ctl.bytes, be_len]
  omega
/-- The head: the kind, then how many bytes follow. -/
theorem bytes_head {c : Ctl} (h : c.Ok) : ((c.bytes.getD 0 0).toNat : Int) = c.kind ∧ num ((c.bytes.drop 1).take 2) = c.body.length ∧ c.bytes.drop 3 = c.body := by
  have h1 := body_len h
  have hk := h.kind
  refine ⟨?_, ?_, ?_⟩
  · show ((UInt8.ofNat c.kind.toNat).toNat : Int) = c.kind
    rw [UInt8.toNat_ofNat']
    omega
  · show num ((be c.body.length 2 ++ c.body).take 2) = _
    rw [List.take_left' (be_len 2 _), num_be]
    omega
  · show (be c.body.length 2 ++ c.body).drop 2 = _
    rw [List.drop_left' (be_len 2 _)]
theorem bytes_inj {a b : Ctl} (ha : a.Ok) (hb : b.Ok) (ia : ∀ x ∈ a.layers, x.In) (ib : ∀ x ∈ b.layers, x.In) (e : a.bytes = b.bytes) : a = b := by
  have h1 := bytes_head ha
  have h2 := bytes_head hb
  have hk : a.kind = b.kind := by rw [← h1.1, ← h2.1, e]
  have hB : a.body = b.body := by rw [← h1.2.2, ← h2.2.2, e]
  exact fields_inj ha hb ia ib hk (fldB_inj (fun p hp => by have := (fields_len ha).1 p hp; omega) (fun p hp => by have := (fields_len hb).1 p hp; omega) hB)
end Go.Proofs.Ytgjncaobcgjefaa
namespace Go.Proofs.Ytgjncaobcgjefaa
set_option linter.unusedVariables false
set_option linter.unusedSimpArgs false
set_option maxRecDepth 20000

def layR (x : List UInt8) : Lay := ⟨⟨(x.drop 6).toArray⟩, num (x.take 4), (num ((x.drop 4).take 2) : Int)⟩
theorem layR_layB {x : Lay} (hi : x.In) (h : okL x = true) : layR (layB x) = x := by
  have ix := okL_of h
  have sx := hi.ssrc
  obtain ⟨⟨⟨r⟩⟩, s, t⟩ := x
  simp only at ix sx
  have e1 : (layB ⟨⟨⟨r⟩⟩, s, t⟩).take 4 = be s 4 := by
    unfold layB
    rw [List.append_assoc, List.take_left' (be_len 4 _)]
  have e2 : ((layB ⟨⟨⟨r⟩⟩, s, t⟩).drop 4).take 2 = be t.toNat 2 := by
    unfold layB
    rw [List.append_assoc, List.drop_left' (be_len 4 _), List.take_left' (be_len 2 _)]
  have e3 : (layB ⟨⟨⟨r⟩⟩, s, t⟩).drop 6 = r := by
    unfold layB
    rw [List.drop_left' (by rw [List.length_append, be_len, be_len])]
  unfold layR
  rw [e1, e2, e3, num_be, num_be]
  have h1 : s % 256 ^ 4 = s := Nat.mod_eq_of_lt (by omega)
  have h2 : ((t.toNat % 256 ^ 2 : Nat) : Int) = t := by
    rw [Nat.mod_eq_of_lt (by omega)]
    omega
  rw [h1, h2]
/-- One field more. -/
def Ctl.put (c : Ctl) (p : UInt8 × List UInt8) : Ctl :=
  if p.1 = 1 then { c with cap := num p.2 } else if p.1 = 2 then { c with layers := c.layers ++ [layR p.2] } else if p.1 = 3 then { c with peer := num p.2 } else if p.1 = 4 then { c with height := num p.2 } else
  if p.1 = 5 then { c with cls := num p.2 } else if p.1 = 6 then { c with layer := num p.2 } else if p.1 = 7 then { c with code := num p.2 } else c
theorem put_layers : ∀ (l : List Lay) (c : Ctl), (∀ x ∈ l, x.In) → (∀ x ∈ l, okL x = true) → (l.map fun x => ((2 : UInt8), layB x)).foldl Ctl.put c = { c with layers := c.layers ++ l }
  | [], c, _, _ => by simp
  | x :: l, c, hi, hk => by
    rw [List.map_cons, List.foldl_cons]
    have e : c.put (2, layB x) = { c with layers := c.layers ++ [x] } := by
      simp [Ctl.put, layR_layB (hi x List.mem_cons_self) (hk x List.mem_cons_self)]
    rw [e, put_layers l _ (fun y hy => hi y (List.mem_cons_of_mem _ hy)) (fun y hy => hk y (List.mem_cons_of_mem _ hy))]
    simp
theorem num_one (a : UInt8) : num [a] = a.toNat := by simp [num]
theorem put_fields {c : Ctl} (h : c.Ok) (hi : ∀ x ∈ c.layers, x.In) : c.fields.foldl Ctl.put ⟨c.kind, 0, [], 0, 0, 0, 0, 0⟩ = c := by
  rw [fields_of h]
  obtain ⟨h1, h2, h3, h4, h5, h6, h7, h8⟩ := h
  obtain ⟨k, p, l, e, ht, s, y, d⟩ := c
  simp only at h1 h2 h3 h4 h5 h6 h7 h8 hi
  have hc : k = 1 ∨ k = 2 ∨ k = 3 ∨ k = 4 ∨ k = 5 ∨ k = 6 ∨ k = 7 ∨ k = 8 ∨ k = 9 ∨ k = 10 := by omega
  have hl : k ≠ 3 → l = [] := fun h0 => by rwa [if_neg h0] at h3
  have b2 : ∀ x : Int, 0 ≤ x → x ≤ 8192 → ((num (be x.toNat 2) : Nat) : Int) = x := fun x h0 h9 => by
    rw [num_be, Nat.mod_eq_of_lt (by omega)]
    omega
  have b8 : ∀ x : Int, 0 ≤ x → x ≤ 1099511627776 → ((num (be x.toNat 8) : Nat) : Int) = x := fun x h0 h9 => by
    rw [num_be, Nat.mod_eq_of_lt (by omega)]
    omega
  have b1 : ∀ x : Int, 0 ≤ x → x ≤ 255 → ((num [UInt8.ofNat x.toNat] : Nat) : Int) = x := fun x h0 h9 => by
    rw [num_one, UInt8.toNat_ofNat']
    omega
  by_cases h33 : k = 3
  · subst h33
    simp at h2 h3 h4 h5 h6 h7 h8
    have e0 := put_layers l ⟨3, 0, [], 0, 0, 0, 0, 0⟩ hi (rightL_of h3).2.1
    simp only [show ¬ (3 : Int) = 1 by decide, if_false, if_true]
    rw [e0]
    simp only [List.nil_append]
    congr 1 <;> omega
  · have := hl h33
    subst this
    clear hl h3 hi
    rcases hc with rfl | rfl | rfl | rfl | rfl | rfl | rfl | rfl | rfl | rfl
    all_goals simp at h2 h4 h5 h6 h7 h8
    all_goals first | exact absurd rfl h33 | skip
    · have := b8 p (by omega) (by omega)
      simp [Ctl.put, this]; omega
    · simp; omega
    · have := b1 e (by omega) (by omega)
      have := b2 ht (by omega) (by omega)
      have := b1 s (by omega) (by omega)
      simp [Ctl.put, *]
    · have := b1 e (by omega) (by omega)
      simp [Ctl.put, *]
    · have := b1 e (by omega) (by omega)
      have := b2 ht (by omega) (by omega)
      simp [Ctl.put, *]
    · have := b1 e (by omega) (by omega)
      have := b1 s (by omega) (by omega)
      simp [Ctl.put, *]
    · have := b1 y (by omega) (by omega)
      simp [Ctl.put, *]
    · have := b1 y (by omega) (by omega)
      simp [Ctl.put, *]
    · have := b1 d (by omega) (by omega)
      simp [Ctl.put, *]
/-- One byte more is no message. -/
theorem bytes_more {x y : Ctl} (hx : x.Ok) (hy : y.Ok) (m : UInt8) : y.bytes ≠ x.bytes ++ [m] := by
  intro e
  have h1 := (bytes_head hx).2.1
  have h2 := (bytes_head hy).2.1
  have lx := bytes_len x
  have ly := bytes_len y
  rw [e, List.drop_append_of_le_length (by omega), List.take_append_of_le_length (by rw [List.length_drop]; omega), h1] at h2
  rw [e, List.length_append, lx] at ly
  simp at ly
  omega
/-- Cut off it is too short, or says more than there is. -/
theorem bytes_cut {x : Ctl} (hx : x.Ok) {k : Nat} (hk : k < x.bytes.length) : k < 3 ∨ (3 ≤ k ∧ k < 3 + num (((x.bytes.take k).drop 1).take 2)) := by
  rcases Nat.lt_or_ge k 3 with h | h
  · exact .inl h
  · refine .inr ⟨h, ?_⟩
    have h1 := (bytes_head hx).2.1
    have lx := bytes_len x
    rw [List.drop_take, List.take_take, Nat.min_eq_left (by omega), h1]
    omega
end Go.Proofs.Ytgjncaobcgjefaa
namespace Go.Proofs.Ytgjncaobcgjefaa
set_option linter.unusedVariables false
set_option linter.unusedSimpArgs false
set_option maxRecDepth 20000

theorem rightL_rises {l : List Lay} (h : rises l = false) : rightL l = false := by simp [rightL, h]
theorem rightL_pairs {l : List Lay} (h : pairs l = false) : rightL l = false := by simp [rightL, h]
theorem swap_no {a b : Lay} {r : List Lay} (h : rightL (a :: b :: r) = true) : rightL (b :: a :: r) = false := by
  have h1 := (rightL_of h).2.2.1
  simp only [rises, Bool.and_eq_true, decide_eq_true_eq] at h1
  refine rightL_rises ?_
  simp only [rises]
  rw [decide_eq_false (by omega), Bool.false_and]
theorem pairs_no {a b : Lay} {r : List Lay} (hb : b ∈ r) (h : b.ssrc = a.ssrc ∨ foldB b.rid = foldB a.rid) : rightL (a :: r) = false := by
  refine rightL_pairs ?_
  have h1 : apart a r = false := by
    rw [Bool.eq_false_iff]
    intro e
    have := List.all_eq_true.1 e b hb
    simp only [Bool.and_eq_true, decide_eq_true_eq] at this
    rcases h with h | h
    · exact this.1 h
    · exact this.2 h
  simp only [pairs, h1, Bool.false_and]
theorem ssrc_no {a b : Lay} {r : List Lay} : rightL (a :: ⟨b.rid, a.ssrc, b.height⟩ :: r) = false := pairs_no List.mem_cons_self (.inl rfl)
theorem rid_no {a b : Lay} {r : List Lay} : rightL (a :: ⟨a.rid, b.ssrc, b.height⟩ :: r) = false := pairs_no List.mem_cons_self (.inr rfl)
theorem twice_no : ∀ {l : List Lay}, rightL (l ++ l) = false
  | [] => rfl
  | a :: r => by
    rw [List.cons_append]
    exact pairs_no (b := a) (by simp) (.inl rfl)
end Go.Proofs.Ytgjncaobcgjefaa
