/- Rates in few bits: the least exponent, what is left, what is opened. Plain mathematics. -/
namespace Go.Proofs.Ytfijlgkgbbemnaa

/-- How many bits a number takes. -/
def szN (n : Nat) : Nat := if n = 0 then 0 else n.log2 + 1
theorem szN_le (n k : Nat) : szN n ≤ k ↔ n < 2 ^ k := by
  unfold szN
  by_cases h : n = 0
  · rw [if_pos h, h]
    exact ⟨fun _ => Nat.two_pow_pos k, fun _ => Nat.zero_le k⟩
  · rw [if_neg h, Nat.add_one_le_iff]
    exact Nat.log2_lt h
theorem lt_szN (n k : Nat) : k < szN n ↔ 2 ^ k ≤ n := by
  have := szN_le n k
  omega
def pkE (n b : Nat) : Nat := szN n - b
def pkM (n b : Nat) : Nat := n / 2 ^ pkE n b
def dnN (n b : Nat) : Nat := pkM n b * 2 ^ pkE n b
theorem pk_lt (n b e : Nat) : n / 2 ^ e < 2 ^ b ↔ pkE n b ≤ e := by
  rw [Nat.div_lt_iff_lt_mul (Nat.two_pow_pos e), ← Nat.pow_add, ← szN_le]
  unfold pkE
  omega
theorem pkM_lt (n b : Nat) : pkM n b < 2 ^ b := (pk_lt n b _).2 (Nat.le_refl _)
theorem pkE_le {n b : Nat} (hn : n < 2 ^ 64) (hb : 1 ≤ b) : pkE n b ≤ 63 := by
  have := (szN_le n 64).2 hn
  unfold pkE
  omega
theorem pkE_zero (n b : Nat) : pkE n b = 0 ↔ n < 2 ^ b := by
  rw [← szN_le]
  unfold pkE
  omega
/-- The exponent is the one at which the loop stops. -/
theorem pkE_at {n b e : Nat} (h : n / 2 ^ e < 2 ^ b) (hle : e ≤ pkE n b) : pkE n b = e := by
  have := (pk_lt n b e).1 h
  omega
theorem dnN_le (n b : Nat) : dnN n b ≤ n := Nat.div_mul_le_self _ _
theorem dnN_rest (n b : Nat) : n - dnN n b < 2 ^ pkE n b := by
  have h1 := Nat.div_add_mod n (2 ^ pkE n b)
  have h2 := Nat.mod_lt n (Nat.two_pow_pos (pkE n b))
  unfold dnN pkM
  rw [Nat.mul_comm] at h1
  omega
/-- What is a mantissa times a power of two stays. -/
theorem dnN_at {n b e m : Nat} (h : n = m * 2 ^ e) (hm : m < 2 ^ b) : dnN n b = n := by
  have he : pkE n b ≤ e := by
    rw [← pk_lt, h, Nat.mul_div_cancel _ (Nat.two_pow_pos e)]
    exact hm
  unfold dnN pkM
  apply Nat.div_mul_cancel
  have hd := Nat.dvd_mul_left_of_dvd (Nat.pow_dvd_pow 2 he) m
  rw [← h] at hd
  exact hd
theorem dnN_again (n b : Nat) : dnN (dnN n b) b = dnN n b := dnN_at rfl (pkM_lt n b)
/-- Where something was cut off, what is left has all its bits. -/
theorem dnN_high {n b : Nat} (hb : 1 ≤ b) (he : 0 < pkE n b) : 2 ^ (b - 1 + pkE n b) ≤ dnN n b := by
  have hs : 2 ^ (szN n - 1) ≤ n := (lt_szN n (szN n - 1)).1 (by unfold pkE at he; omega)
  have hp : szN n - 1 = b - 1 + pkE n b := by unfold pkE at he ⊢; omega
  rw [hp, Nat.pow_add] at hs
  rw [Nat.pow_add]
  unfold dnN pkM
  exact Nat.mul_le_mul_right _ ((Nat.le_div_iff_mul_le (Nat.two_pow_pos _)).2 hs)
theorem dnN_half {n b : Nat} (hb : 1 ≤ b) (hn : n ≠ 0) : n / 2 < dnN n b := by
  rcases Nat.eq_zero_or_pos (pkE n b) with h0 | h0
  · have : dnN n b = n := by unfold dnN pkM; rw [h0]; simp
    omega
  · have h1 := dnN_high hb h0
    have h2 : n < 2 ^ (b - 1 + pkE n b + 1) := (szN_le n _).1 (by unfold pkE; omega)
    rw [Nat.pow_succ] at h2
    omega
theorem pkE_mono {a c : Nat} (h : a ≤ c) (b : Nat) : pkE a b ≤ pkE c b := by
  rw [← pk_lt]
  exact Nat.lt_of_le_of_lt (Nat.div_le_div_right h) (pkM_lt c b)
theorem dnN_mono {a c b : Nat} (hb : 1 ≤ b) (h : a ≤ c) : dnN a b ≤ dnN c b := by
  rcases Nat.lt_or_ge a (dnN c b) with h1 | h1
  · exact Nat.le_trans (dnN_le a b) (Nat.le_of_lt h1)
  · rcases Nat.eq_zero_or_pos (pkE c b) with h0 | h0
    · have : dnN c b = c := by unfold dnN pkM; rw [h0]; simp
      rw [this]
      exact Nat.le_trans (dnN_le a b) h
    · have h2 := Nat.le_trans (dnN_high hb h0) h1
      have h3 := (lt_szN a _).2 h2
      have h4 := pkE_mono h b
      have h5 : pkE a b = pkE c b := by unfold pkE at h0 h3 h4 ⊢; omega
      unfold dnN pkM
      rw [h5]
      exact Nat.mul_le_mul_right _ (Nat.div_le_div_right h)
/-- What is opened: held at what 64 bits bear. -/
def opN (e m : Nat) : Nat := min (m * 2 ^ e) (2 ^ 64 - 1)
/-- A shift that runs over is seen when it is shifted back. -/
theorem op_back {e m : Nat} (he : e ≤ 63) : (m * 2 ^ e % 2 ^ 64) / 2 ^ e = m ↔ m * 2 ^ e < 2 ^ 64 := by
  have hp : (2 : Nat) ^ 64 = 2 ^ (64 - e) * 2 ^ e := by rw [← Nat.pow_add]; congr 1; omega
  rw [hp, Nat.mul_mod_mul_right, Nat.mul_div_cancel _ (Nat.two_pow_pos e), Nat.mul_lt_mul_right (Nat.two_pow_pos e)]
  constructor
  · intro h
    rw [← h]
    exact Nat.mod_lt _ (Nat.two_pow_pos _)
  · exact Nat.mod_eq_of_lt
theorem op_fits {e m : Nat} (h : m * 2 ^ e < 2 ^ 64) : opN e m = m * 2 ^ e := by unfold opN; omega
theorem op_over {e m : Nat} (h : ¬ m * 2 ^ e < 2 ^ 64) : opN e m = 2 ^ 64 - 1 := by unfold opN; omega
theorem op_pack {n b : Nat} (hn : n < 2 ^ 64) : opN (pkE n b) (pkM n b) = dnN n b := op_fits (Nat.lt_of_le_of_lt (dnN_le n b) hn)
end Go.Proofs.Ytfijlgkgbbemnaa
