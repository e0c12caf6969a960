/- Plain mathematics of layer 3: what bytes are read as; that a packet's bytes, padded or not, are read as it. No program's function. -/
import Derived.Test.YtpcdmcaojgpfoaaPkt
namespace Go.Proofs.Ytpcdmcaojgpfoaa
open Go.RowKit
set_option linter.unusedVariables false
set_option linter.unusedSimpArgs false
set_option maxRecDepth 20000

def gn (l : List UInt8) (i k : Nat) : Nat := num ((l.drop i).take k)
def bt (l : List UInt8) (i : Nat) : Nat := (l.getD i 0).toNat
def isX (l : List UInt8) : Bool := decide (bt l 0 / 16 % 2 = 1)
def isPd (l : List UInt8) : Bool := decide (bt l 0 / 32 % 2 = 1)
def cN (l : List UInt8) : Nat := bt l 0 % 16
def hE (l : List UInt8) : Nat := 12 + 4 * cN l
def wN (l : List UInt8) : Nat := gn l (hE l + 2) 2
def pS (l : List UInt8) : Nat := if isX l = true then hE l + 4 + 4 * wN l else hE l
def padB (l : List UInt8) : Nat := bt l (l.length - 1)
def padQ (l : List UInt8) : Nat := if isPd l = true then padB l else 0
def pE (l : List UInt8) : Nat := l.length - padQ l
/-- Is it all there? -/
def fit (l : List UInt8) : Bool := decide (12 ≤ l.length) && ((!isX l || decide (hE l + 4 ≤ l.length)) && ((!isPd l || decide (padB l ≠ 0)) && decide (pS l + padQ l ≤ l.length)))
def noProf (l : List UInt8) : Bool := isX l && decide (gn l (hE l) 2 = 0)
def rdErr (l : List UInt8) : Int :=
  if 1500 < l.length then 3 else if l.length = 0 then 13 else if bt l 0 / 64 ≠ 2 then 12 else if fit l = false then 13 else if noProf l = true then 12 else 0
def Pkt.zero : Pkt := ⟨false, 0, 0, 0, 0, [], 0, [], []⟩
def csrcOf (l : List UInt8) (n : Nat) : List Nat := (List.range n).map fun i => gn l (12 + 4 * i) 4
def rdPk (l : List UInt8) : Pkt :=
  ⟨decide (bt l 1 / 128 = 1), ((bt l 1 % 128 : Nat) : Int), gn l 2 2, gn l 4 4, gn l 8 4, csrcOf l (cN l), if isX l = true then gn l (hE l) 2 else 0, if isX l = true then (l.drop (hE l + 4)).take (4 * wN l) else [], (l.drop (pS l)).take (pE l - pS l)⟩
def rdP (l : List UInt8) : Pkt := if rdErr l = 0 then rdPk l else Pkt.zero

theorem bt_lt (l : List UInt8) (i : Nat) : bt l i < 256 := by unfold bt; exact (l.getD i 0).toNat_lt
theorem gn_lt (l : List UInt8) (i k : Nat) : gn l i k < 256 ^ k := by
  have h1 := num_lt ((l.drop i).take k)
  have h2 : 256 ^ ((l.drop i).take k).length ≤ 256 ^ k := Nat.pow_le_pow_right (by omega) (by simp; omega)
  unfold gn
  omega
theorem getN_gn (l : List UInt8) (i k : Nat) (h1 : 1 ≤ k) (h8 : k ≤ 8) (h : i + k ≤ l.length) : getN l i k = gn l i k := by
  have hs : szB (k : Int) = true := by simp [szB]; omega
  have ht : thB l.length (i : Int) (k : Int) = true := by simp [thB]; omega
  simp [getN, hs, ht, gn]
theorem gn_left (a r : List UInt8) (i k : Nat) (h : i + k ≤ a.length) : gn (a ++ r) i k = gn a i k := by
  unfold gn
  rw [List.drop_append_of_le_length (by omega), List.take_append_of_le_length (by simp; omega)]
theorem gn_right (a r : List UInt8) (n i k : Nat) (hn : n = a.length + i) : gn (a ++ r) n k = gn r i k := by
  subst hn
  unfold gn
  rw [← List.drop_drop, List.drop_left]
theorem gn_be (x k : Nat) (r : List UInt8) (hx : x < 256 ^ k) : gn (be x k ++ r) 0 k = x := by
  rw [gn_left _ _ _ _ (by rw [be_len]; omega)]
  unfold gn
  rw [List.drop_zero, List.take_of_length_le (by rw [be_len]; omega), num_be, Nat.mod_eq_of_lt hx]
theorem gn_all (x k : Nat) (hx : x < 256 ^ k) : gn (be x k) 0 k = x := by
  have := gn_be x k [] hx
  rwa [List.append_nil] at this
theorem be_flat_len (c : List Nat) : (c.flatMap (fun x => be x 4)).length = 4 * c.length := by
  induction c with
  | nil => rfl
  | cons x c ih => rw [List.flatMap_cons, List.length_append, ih, be_len, List.length_cons]; omega
theorem gn_csrc : ∀ (c : List Nat) (r : List UInt8) (i : Nat) (h : i < c.length), (∀ x ∈ c, x < 4294967296) → gn (c.flatMap (fun x => be x 4) ++ r) (4 * i) 4 = c[i]
  | x :: c, r, 0, _, hc => by
    rw [List.flatMap_cons, List.append_assoc]
    simpa using gn_be x 4 _ (by have := hc x (by simp); simpa using this)
  | x :: c, r, i + 1, h, hc => by
    rw [List.flatMap_cons, List.append_assoc, gn_right _ _ _ (4 * i) 4 (by rw [be_len]; omega)]
    have := gn_csrc c r i (by simpa using h) (fun y hy => hc y (by simp [hy]))
    rw [this]
    simp
theorem bt_cons (b : UInt8) (l : List UInt8) : bt (b :: l) 0 = b.toNat := rfl

/-- A row of the form that a packet's bytes have, with padding or without. -/
def formL (p : Pkt) (b0 : Nat) (d : List UInt8) : List UInt8 :=
  UInt8.ofNat b0 :: UInt8.ofNat (p.ty.toNat + if p.m then 128 else 0) ::
    (be p.seq 2 ++ (be p.time 4 ++ (be p.ssrc 4 ++ (p.csrc.flatMap (fun x => be x 4) ++ ((if p.prof = 0 then [] else be p.prof 2 ++ (be (p.ext.length / 4) 2 ++ p.ext)) ++ (p.pay ++ d))))))
theorem bytes_form (p : Pkt) : p.bytes = formL p (128 + p.csrc.length + if p.prof = 0 then 0 else 16) [] := by simp [Pkt.bytes, formL]
/-- Padding of k bytes, the last of which tells how many. -/
def padD (k : Nat) : List UInt8 := List.replicate (k - 1) 0 ++ [UInt8.ofNat k]
theorem padD_len (k : Nat) (h : 1 ≤ k) : (padD k).length = k := by simp [padD]; omega

/-- What a right packet is. -/
structure Pkt.Ok (p : Pkt) : Prop where
  t0 : 0 ≤ p.ty
  t1 : p.ty ≤ 127
  c : p.csrc.length ≤ 15
  e4 : p.ext.length % 4 = 0
  pe : p.prof = 0 → p.ext = []
  sz : p.size ≤ 1500
theorem Pkt.ok_of (p : Pkt) (h : p.right = 0) : p.Ok := by
  unfold Pkt.right at h
  by_cases ha : p.arg = true
  · rw [if_pos ha] at h; omega
  · rw [if_neg ha] at h
    have hs : p.size ≤ 1500 := by
      by_cases h2 : 1500 < p.size
      · rw [if_pos h2] at h; omega
      · omega
    simp only [Pkt.arg, Bool.or_eq_true, Bool.and_eq_true, decide_eq_true_eq, not_or, not_and] at ha
    obtain ⟨a1, a2, a3, a4, a5⟩ := ha
    exact ⟨by omega, by omega, by omega, by omega, fun hp => List.eq_nil_of_length_eq_zero (by have := a5 hp; omega), hs⟩
theorem Pkt.ok_right (p : Pkt) (h : p.Ok) : p.right = 0 := by
  obtain ⟨a1, a2, a3, a4, a5, a6⟩ := h
  have ha : p.arg = false := by
    simp only [Pkt.arg, Bool.or_eq_false_iff, Bool.and_eq_false_iff, decide_eq_false_iff_not]
    refine ⟨by omega, by omega, by omega, by omega, ?_⟩
    by_cases hp : p.prof = 0
    · right; rw [a5 hp]; simp
    · exact .inl hp
  unfold Pkt.right
  rw [ha, if_neg (by simp), if_neg (by omega)]
theorem Pkt.bytes_len (p : Pkt) (h : p.prof = 0 → p.ext = []) : p.bytes.length = p.size := by
  unfold Pkt.bytes Pkt.size
  by_cases hp : p.prof = 0
  · simp [hp, be_len, be_flat_len, -List.length_flatMap]; omega
  · simp [hp, be_len, be_flat_len, -List.length_flatMap]; omega

section
variable (p : Pkt) (b0 : Nat) (d : List UInt8)
def xT : List UInt8 := if p.prof = 0 then [] else be p.prof 2 ++ (be (p.ext.length / 4) 2 ++ p.ext)
def hD : List UInt8 := UInt8.ofNat b0 :: UInt8.ofNat (p.ty.toNat + if p.m then 128 else 0) :: (be p.seq 2 ++ (be p.time 4 ++ be p.ssrc 4))
theorem hD_len : (hD p b0).length = 12 := by simp [hD, be_len]
theorem form_hD : formL p b0 d = hD p b0 ++ (p.csrc.flatMap (fun x => be x 4) ++ (xT p ++ (p.pay ++ d))) := by simp [formL, hD, xT]
theorem form_len : (formL p b0 d).length = 12 + 4 * p.csrc.length + (xT p).length + p.pay.length + d.length := by
  rw [form_hD]
  simp [hD_len, be_flat_len, -List.length_flatMap]
  omega
variable (hk : p.In) (ho : p.Ok) (hc : ∀ x ∈ p.csrc, x < 4294967296)
theorem xT_len (ho : p.Ok) : (xT p).length = if p.prof = 0 then 0 else 4 + p.ext.length := by
  unfold xT
  by_cases hp : p.prof = 0
  · simp [hp]
  · simp [hp, be_len]; omega
theorem form_b0 (hb : b0 < 256) : bt (formL p b0 d) 0 = b0 := by
  simp [formL, bt, List.getD]
  omega
theorem form_b1 (ho : p.Ok) : bt (formL p b0 d) 1 = p.ty.toNat + if p.m then 128 else 0 := by
  have h1 := ho.t1
  simp only [formL, bt, List.getD]
  simp
  by_cases hm : p.m <;> simp [hm] <;> omega
end

theorem form_read (p : Pkt) (b0 : Nat) (d : List UInt8) (hk : p.In) (ho : p.Ok) (hc : ∀ x ∈ p.csrc, x < 4294967296) (k : Nat)
    (hb : b0 = 128 + p.csrc.length + (if p.prof = 0 then 0 else 16) + (if k = 0 then 0 else 32)) (hd : d = if k = 0 then [] else padD k) (hk2 : k < 256) (hsz : p.size + k ≤ 1500) :
    rdErr (formL p b0 d) = 0 ∧ rdP (formL p b0 d) = p := by
  have hc15 := ho.c
  have hcase : (if p.prof = 0 then 0 else 16) + (if k = 0 then 0 else 32) ≤ 48 := by split <;> split <;> omega
  have hb256 : b0 < 256 := by omega
  have e0 := form_b0 p b0 d hb256
  have e1 := form_b1 p b0 d ho
  have hdl : d.length = k := by
    rw [hd]
    by_cases h0 : k = 0
    · simp [h0]
    · rw [if_neg h0, padD_len k (by omega)]
  have hlen := form_len p b0 d
  have hxl := xT_len p ho
  have hform := form_hD p b0 d
  have hhl := hD_len p b0
  obtain ⟨L, hL⟩ : ∃ L, L = formL p b0 d := ⟨_, rfl⟩
  rw [← hL] at e0 e1 hlen hform ⊢
  have hcn : cN L = p.csrc.length := by
    unfold cN; rw [e0, hb]
    split <;> split <;> omega
  have hE_ : hE L = 12 + 4 * p.csrc.length := by unfold hE; rw [hcn]
  have hx : isX L = decide (p.prof ≠ 0) := by
    unfold isX; rw [e0, hb]
    by_cases hp : p.prof = 0 <;> simp [hp] <;> split <;> omega
  have hpd : isPd L = decide (k ≠ 0) := by
    unfold isPd; rw [e0, hb]
    by_cases h0 : k = 0 <;> simp [h0] <;> split <;> omega
  have hver : bt L 0 / 64 = 2 := by
    rw [e0, hb]; split <;> split <;> omega
  -- the numbers
  have hn : ∀ i q, gn L (12 + 4 * p.csrc.length + i) q = gn (xT p ++ (p.pay ++ d)) i q := by
    intro i q
    rw [hform, gn_right _ _ _ (4 * p.csrc.length + i) q (by rw [hhl]; omega), gn_right _ _ _ i q (by rw [be_flat_len])]
  have hseq : gn L 2 2 = p.seq := by
    rw [hform, gn_left _ _ _ _ (by rw [hhl]; omega)]
    show gn ([_, _] ++ (be p.seq 2 ++ _)) 2 2 = _
    rw [gn_right _ _ _ 0 2 (by simp), gn_be _ _ _ (by have := hk.seq; simpa using this)]
  have htime : gn L 4 4 = p.time := by
    rw [hform, gn_left _ _ _ _ (by rw [hhl]; omega)]
    show gn ([_, _] ++ (be p.seq 2 ++ _)) 4 4 = _
    rw [gn_right _ _ _ 2 4 (by simp), gn_right _ _ _ 0 4 (by simp [be_len]), gn_be _ _ _ (by have := hk.time; simpa using this)]
  have hssrc : gn L 8 4 = p.ssrc := by
    rw [hform, gn_left _ _ _ _ (by rw [hhl]; omega)]
    show gn ([_, _] ++ (be p.seq 2 ++ _)) 8 4 = _
    rw [gn_right _ _ _ 6 4 (by simp), gn_right _ _ _ 4 4 (by simp [be_len]), gn_right _ _ _ 0 4 (by simp [be_len]), gn_all _ _ (by have := hk.ssrc; simpa using this)]
  have hcsrc : csrcOf L p.csrc.length = p.csrc := by
    apply List.ext_getElem
    · simp [csrcOf]
    · intro i h1 h2
      have hi : i < p.csrc.length := h2
      simp only [csrcOf, List.getElem_map, List.getElem_range]
      rw [hform, gn_right _ _ _ (4 * i) 4 (by rw [hhl])]
      exact gn_csrc p.csrc _ i hi hc
  have hprof : isX L = true → gn L (hE L) 2 = p.prof := by
    intro h
    have hp : p.prof ≠ 0 := by rw [hx] at h; simpa using h
    have := hn 0 2
    rw [Nat.add_zero] at this
    rw [hE_, this, xT, if_neg hp, List.append_assoc, gn_be _ _ _ (by have := hk.prof; simpa using this)]
  have hwords : isX L = true → wN L = p.ext.length / 4 := by
    intro h
    have hp : p.prof ≠ 0 := by rw [hx] at h; simpa using h
    unfold wN
    rw [hE_, hn 2 2, xT, if_neg hp, List.append_assoc, gn_right _ _ _ 0 2 (by simp [be_len]), List.append_assoc, gn_be _ _ _ (by have := ho.sz; unfold Pkt.size at this; rw [if_neg hp] at this; simp; omega)]
  have he4 := ho.e4
  have hpS : pS L = 12 + 4 * p.csrc.length + (xT p).length := by
    unfold pS
    by_cases hp : p.prof = 0
    · have h : isX L = false := by rw [hx]; simp [hp]
      rw [h, if_neg (by simp), hE_, hxl, if_pos hp, Nat.add_zero]
    · have h : isX L = true := by rw [hx]; simp [hp]
      rw [h, if_pos rfl, hE_, hwords h, hxl, if_neg hp]
      omega
  have hpadQ : padQ L = k := by
    unfold padQ
    by_cases h0 : k = 0
    · have h : isPd L = false := by rw [hpd]; simp [h0]
      rw [h, if_neg (by simp), h0]
    · have h : isPd L = true := by rw [hpd]; simp [h0]
      rw [h, if_pos rfl]
      unfold padB bt
      have hlast : L.getD (L.length - 1) 0 = UInt8.ofNat k := by
        have hd' : d = List.replicate (k - 1) 0 ++ [UInt8.ofNat k] := by rw [hd, if_neg h0]; rfl
        have hL2 : L = (hD p b0 ++ (p.csrc.flatMap (fun x => be x 4) ++ (xT p ++ (p.pay ++ List.replicate (k - 1) 0)))) ++ [UInt8.ofNat k] := by rw [hform, hd']; simp
        obtain ⟨A, hA⟩ : ∃ A, L = A ++ [UInt8.ofNat k] := ⟨_, hL2⟩
        rw [hA]
        simp [List.getD]
      rw [hlast]
      simp
      omega
  have hext : isX L = true → (L.drop (hE L + 4)).take (4 * wN L) = p.ext := by
    intro h
    have hp : p.prof ≠ 0 := by rw [hx] at h; simpa using h
    rw [hwords h, hE_, show 4 * (p.ext.length / 4) = p.ext.length by omega]
    have hL2 : L = (hD p b0 ++ (p.csrc.flatMap (fun x => be x 4) ++ (be p.prof 2 ++ be (p.ext.length / 4) 2))) ++ (p.ext ++ (p.pay ++ d)) := by rw [hform, xT, if_neg hp]; simp
    rw [hL2, List.drop_append_of_le_length (by simp [hhl, be_flat_len, be_len, -List.length_flatMap]; omega), List.drop_of_length_le (by simp [hhl, be_flat_len, be_len, -List.length_flatMap]; omega)]
    simp
  have hpay : (L.drop (pS L)).take (pE L - pS L) = p.pay := by
    have e : pE L - pS L = p.pay.length := by unfold pE; rw [hpadQ, hpS]; omega
    have hL2 : L = (hD p b0 ++ (p.csrc.flatMap (fun x => be x 4) ++ xT p)) ++ (p.pay ++ d) := by rw [hform]; simp
    rw [e, hpS, hL2, List.drop_append_of_le_length (by simp [hhl, be_flat_len, -List.length_flatMap]; omega), List.drop_of_length_le (by simp [hhl, be_flat_len, -List.length_flatMap]; omega)]
    simp
  have hsz' : 12 + 4 * p.csrc.length + (xT p).length + p.pay.length = p.size := by unfold Pkt.size; rw [hxl]; omega
  have hfit : fit L = true := by
    unfold fit
    simp only [Bool.and_eq_true, decide_eq_true_eq, Bool.or_eq_true, Bool.not_eq_true']
    refine ⟨by omega, ?_, ?_, by rw [hpS, hpadQ]; omega⟩
    · by_cases hp : p.prof = 0
      · left; rw [hx]; simp [hp]
      · right; rw [hE_]; rw [if_neg hp] at hxl; omega
    · by_cases h0 : k = 0
      · left; rw [hpd]; simp [h0]
      · right
        have h : isPd L = true := by rw [hpd]; simp [h0]
        have := hpadQ
        unfold padQ at this
        rw [h, if_pos rfl] at this
        omega
  have hnp : noProf L = false := by
    unfold noProf
    by_cases hp : p.prof = 0
    · rw [hx]; simp [hp]
    · have h : isX L = true := by rw [hx]; simp [hp]
      rw [h, hprof h]
      simp [hp]
  have hErr : rdErr L = 0 := by
    unfold rdErr
    rw [if_neg (by omega), if_neg (by omega), if_neg (by omega), hfit, if_neg (by simp), hnp, if_neg (by simp)]
  refine ⟨hErr, ?_⟩
  unfold rdP
  rw [if_pos hErr]
  unfold rdPk
  rw [hseq, htime, hssrc, hcn, hcsrc, hpay, e1]
  have ht0 := ho.t0
  have ht1 := ho.t1
  have hX : (if isX L = true then gn L (hE L) 2 else 0) = p.prof := by
    by_cases h : isX L = true
    · rw [if_pos h, hprof h]
    · rw [if_neg h]; rw [hx] at h; simp at h; exact h.symm
  have hY : (if isX L = true then (L.drop (hE L + 4)).take (4 * wN L) else []) = p.ext := by
    by_cases h : isX L = true
    · rw [if_pos h, hext h]
    · rw [if_neg h]; rw [hx] at h; simp at h; exact (ho.pe h).symm
  rw [hX, hY]
  obtain ⟨m, ty, seq, time, ssrc, csrc, prof, ext, pay⟩ := p
  simp only [Pkt.mk.injEq, and_true, true_and]
  simp only at ht0 ht1
  constructor
  · by_cases hm : m = true
    · subst hm; simp; omega
    · simp only [Bool.not_eq_true] at hm; subst hm; simp; omega
  · by_cases hm : m = true
    · subst hm; simp; omega
    · simp only [Bool.not_eq_true] at hm; subst hm; simp; omega
theorem rd_bytes (p : Pkt) (hk : p.In) (hr : p.right = 0) (hc : ∀ x ∈ p.csrc, x < 4294967296) : rdErr p.bytes = 0 ∧ rdP p.bytes = p := by
  have ho := p.ok_of hr
  rw [bytes_form]
  exact form_read p _ [] hk ho hc 0 (by simp) (by simp) (by omega) (by have := ho.sz; omega)
theorem bytes_inj (p q : Pkt) (hp : p.In) (hq : q.In) (rp : p.right = 0) (rq : q.right = 0) (cp : ∀ x ∈ p.csrc, x < 4294967296) (cq : ∀ x ∈ q.csrc, x < 4294967296) (h : p.bytes = q.bytes) : p = q := by
  rw [← (rd_bytes p hp rp cp).2, ← (rd_bytes q hq rq cq).2, h]
/-- The packet that is read is of its kinds. -/
theorem rdPk_in (l : List UInt8) (h : l.length ≤ 1500) : (rdPk l).In := by
  have h1 := gn_lt l 2 2
  have h2 := gn_lt l 4 4
  have h3 := gn_lt l 8 4
  have h4 := gn_lt l (hE l) 2
  have hb := bt_lt l 0
  refine ⟨?_, by simpa [rdPk] using h1, by simpa [rdPk] using h2, by simpa [rdPk] using h3, ?_, ?_, ?_, ?_⟩
  · simp only [rdPk]; unfold I64; omega
  · simp only [rdPk]; split <;> omega
  · simp only [rdPk, csrcOf, List.length_map, List.length_range, cN]; omega
  · simp only [rdPk]; split <;> simp; omega
  · simp only [rdPk]; simp; omega
theorem rdP_in (l : List UInt8) (h : l.length ≤ 1500) : (rdP l).In := by
  unfold rdP
  split
  · exact rdPk_in l h
  · exact ⟨by simp [Pkt.zero, I64], by simp [Pkt.zero], by simp [Pkt.zero], by simp [Pkt.zero], by simp [Pkt.zero], by simp [Pkt.zero], by simp [Pkt.zero], by simp [Pkt.zero]⟩
theorem rd_words (l : List UInt8) (n : Nat) : ∀ x ∈ csrcOf l n, x < 4294967296 := by
  intro x hx
  obtain ⟨i, _, rfl⟩ := List.mem_map.1 hx
  have := gn_lt l (12 + 4 * i) 4
  simpa using this
end Go.Proofs.Ytpcdmcaojgpfoaa
