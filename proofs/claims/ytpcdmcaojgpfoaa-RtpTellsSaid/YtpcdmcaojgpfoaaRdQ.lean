/- Plain mathematics of layer 3: a packet's bytes padded, cut off. No program's function. -/
import Derived.Test.YtpcdmcaojgpfoaaRdOut
import Derived.Test.YtpcdmcaojgpfoaaCR3Same
namespace Go.Proofs.Ytpcdmcaojgpfoaa
open Go.RowKit
set_option linter.unusedVariables false
set_option linter.unusedSimpArgs false
set_option maxRecDepth 20000

def fb0 (p : Pkt) : Nat := 128 + p.csrc.length + if p.prof = 0 then 0 else 16
theorem fb0_le (p : Pkt) (ho : p.Ok) : 128 ≤ fb0 p ∧ fb0 p ≤ 159 ∧ fb0 p / 32 % 2 = 0 := by
  have := ho.c
  unfold fb0
  split <;> omega
theorem bt_bytes (p : Pkt) (ho : p.Ok) : bt p.bytes 0 = fb0 p := by
  rw [bytes_form]
  have := fb0_le p ho
  exact form_b0 p (fb0 p) [] (by omega)
theorem form_app (p : Pkt) (b0 : Nat) (d e : List UInt8) : formL p b0 d ++ e = formL p b0 (d ++ e) := by simp [formL]
theorem form_set0 (p : Pkt) (b0 b1 : Nat) (d : List UInt8) : (formL p b0 d).set 0 (UInt8.ofNat b1) = formL p b1 d := by simp [formL]
theorem zeros_last (k : Nat) (hk : 1 ≤ k) (x : UInt8) : (List.replicate k (0 : UInt8)).set (k - 1) x = List.replicate (k - 1) 0 ++ [x] := by
  obtain ⟨j, rfl⟩ : ∃ j, k = j + 1 := ⟨k - 1, by omega⟩
  rw [List.replicate_succ', Nat.add_sub_cancel, List.set_append_right _ _ (by simp)]
  simp
/-- Padded by hand, it has the form. -/
theorem pad_form (p : Pkt) (k : Nat) (hk : 1 ≤ k) :
    ((p.bytes ++ List.replicate k 0).set 0 (UInt8.ofNat (fb0 p + 32))).set (p.bytes.length + k - 1) (UInt8.ofNat k) = formL p (fb0 p + 32) (padD k) := by
  have e1 : p.bytes = formL p (fb0 p) [] := bytes_form p
  have hl : (formL p (fb0 p + 32) []).length = p.bytes.length := by rw [e1, form_len, form_len]
  rw [← hl, e1, form_app, form_set0, List.nil_append]
  have e2 : formL p (fb0 p + 32) (List.replicate k 0) = formL p (fb0 p + 32) [] ++ List.replicate k 0 := by rw [form_app, List.nil_append]
  rw [e2, List.set_append_right _ _ (by omega), show (formL p (fb0 p + 32) []).length + k - 1 - (formL p (fb0 p + 32) []).length = k - 1 by omega, zeros_last k hk, form_app, List.nil_append]
  rfl
theorem pad_read (p : Pkt) (k : Nat) (hk : 1 ≤ k) (hk2 : k ≤ 40) (hi : p.In) (ho : p.Ok) (hc : ∀ x ∈ p.csrc, x < 4294967296) (hsz : p.size ≤ 1400) : rdErr (formL p (fb0 p + 32) (padD k)) = 0 ∧ rdP (formL p (fb0 p + 32) (padD k)) = p :=
  form_read p _ _ hi ho hc k (by rw [show (if k = 0 then 0 else 32) = 32 from if_neg (by omega)]; rfl) (by rw [if_neg (by omega)]) (by omega) (by omega)
/-- Cut off in its head it is none. -/
theorem cut_err (p : Pkt) (ho : p.Ok) (j : Nat) (hj : j ≤ 11) : rdErr (p.bytes.take j) = 13 := by
  have h12 : 12 ≤ p.bytes.length := by rw [bytes_form, form_len]; omega
  have hl : (p.bytes.take j).length = j := by rw [List.length_take]; omega
  by_cases h0 : j = 0
  · exact rerr_none (by omega)
  · have hb : bt (p.bytes.take j) 0 = bt p.bytes 0 := by
      unfold bt
      rw [List.getD_eq_getElem?_getD, List.getD_eq_getElem?_getD, List.getElem?_take, if_pos (by omega)]
    have := fb0_le p ho
    refine rerr_fit (by omega) (by omega) ?_ ?_
    · rw [hb, bt_bytes p ho]; omega
    · unfold fit; rw [decide_eq_false (by omega)]; rfl
theorem samePk_refl (p : Pkt) : samePk p p = true := by simp [samePk]
theorem samePk_iff (p q : Pkt) : samePk p q = true ↔ p = q := by
  obtain ⟨m1, ty1, seq1, time1, ssrc1, csrc1, prof1, ext1, pay1⟩ := p
  obtain ⟨m2, ty2, seq2, time2, ssrc2, csrc2, prof2, ext2, pay2⟩ := q
  simp [samePk]
  intro h1 h2 h3 h4 h5
  constructor
  · rintro ⟨a, b, c, d⟩; exact ⟨d, a, b, c⟩
  · rintro ⟨d, a, b, c⟩; exact ⟨a, b, c, d⟩
/-- A byte of a row of one's own is written. -/
theorem Own8.setAt {w : World} {base g c i n : Nat} {l : List UInt8} (h : Own8 w base (.slice (some ⟨g, 0, none⟩) n c) l) (hi : i < l.length) (x : UInt8) : Own8 (w.setCell ⟨g, i, none⟩ (.int .u8 (x.toNat : Int))) base (.slice (some ⟨g, 0, none⟩) n c) (l.set i x) := by
  rcases h.2 with ⟨hv, _⟩ | ⟨g', cap, cur, hv, hb, hg, hnc, hm, hs, ht⟩
  · cases hv
  · injection hv with h1 h2 h3
    injection h1 with h1
    injection h1 with h1 _ _
    subst h1 h2 h3
    refine ⟨by simp, .inr ⟨g, c, _, by simp, hb, Blk.set_ (w := w) (g := g) hg i (.int .u8 (x.toNat : Int)), by simpa using hnc, hm, by simpa using hs, ?_⟩⟩
    rw [Nat.mul_one] at ht ⊢
    rw [List.length_set, Array.toList_setIfInBounds, List.take_set, ht, List.map_set]
    rfl
theorem Own8.some {w : World} {base : Nat} {v : Value} {l : List UInt8} (h : Own8 w base v l) (hl : 0 < l.length) : ∃ g c, v = .slice (some ⟨g, 0, none⟩) l.length c ∧ base ≤ g ∧ g < w.heap.size ∧ (∀ i, w.frozen? ⟨g, i, none⟩ = false) ∧ ∀ i, i < l.length → w.cell? ⟨g, i, none⟩ = some (.int .u8 ((l.getD i 0).toNat : Int)) := by
  obtain ⟨A, c, hv, hr⟩ := h.r8
  rcases h.2 with ⟨hv', hn⟩ | ⟨g, cap, cur, hv', hb, hg, hnc, hm, hs, ht⟩
  · omega
  · rw [hv'] at hv
    injection hv with h1 h2 h3
    refine ⟨g, cap, hv', hb, (Array.getElem?_eq_some_iff.1 hg).1, fun i => by simp [World.frozen?, hg], fun i hi => ?_⟩
    obtain ⟨b, off, e, _, hc⟩ := hr.2.2 hl
    rw [← h1] at e
    injection e with e
    injection e with e1 e2 _
    subst e1 e2
    have := hc i hi
    rwa [Nat.zero_add] at this
end Go.Proofs.Ytpcdmcaojgpfoaa
