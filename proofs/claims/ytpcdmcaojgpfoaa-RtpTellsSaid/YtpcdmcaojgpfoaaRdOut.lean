/- What Read leaves. No program's function. -/
import Derived.Test.YtpcdmcaojgpfoaaRdP
import Derived.Test.YtpcdmcaojgpfoaaPkMem
import Derived.Test.YtpcdmcaojgpfoaaTape
namespace Go.Proofs.Ytpcdmcaojgpfoaa
open Go.RowKit
set_option linter.unusedVariables false
set_option linter.unusedSimpArgs false
set_option maxRecDepth 20000

def ReadOut (l : List UInt8) (w : World) (e : Ending) (w' : World) : Prop :=
  ∃ (A1 : Option Addr) (c1 : Nat) (A2 : Option Addr) (c2 : Nat) (A3 : Option Addr) (c3 : Nat), e = .returned (.tuple #[(rdP l).val A1 c1 A2 c2 A3 c3, .int .i64 (rdErr l)]) ∧ IsP w' w'.heap.size A1 c1 A2 c2 A3 c3 (rdP l) ∧ Below w.heap.size w w'
theorem zero_in : Pkt.zero.In := ⟨by simp [Pkt.zero, I64], by simp [Pkt.zero], by simp [Pkt.zero], by simp [Pkt.zero], by simp [Pkt.zero], by simp [Pkt.zero], by simp [Pkt.zero], by simp [Pkt.zero]⟩
theorem ReadOut.no {l : List UInt8} {w w' : World} {k : Int} (h : rdErr l = k) (hk : k ≠ 0) (hb : Below w.heap.size w w') : ReadOut l w (.returned (.tuple #[.agg #[.bool false, .int .i64 0, .int .u16 0, .int .u32 0, .int .u32 0, .slice none 0 0, .int .u16 0, .slice none 0 0, .slice none 0 0], .int .i64 k])) w' := by
  have e : rdP l = Pkt.zero := by unfold rdP; rw [if_neg (by omega)]
  refine ⟨none, 0, none, 0, none, 0, ?_, ?_, hb⟩
  · rw [e, h]; rfl
  · rw [e]; exact ⟨R32.nil _ _ _ _, R8.nil _ _ _ _, R8.nil _ _ _ _, zero_in⟩
theorem csrcOf_len (l : List UInt8) (n : Nat) : (csrcOf l n).length = n := by simp [csrcOf]
theorem ReadOut.yes {l : List UInt8} {w w' : World} (h : rdErr l = 0) (hn : l.length ≤ 1500) {A1 A2 A3 : Option Addr} {c1 n2 c2 n3 c3 : Nat} {L2 L3 : List UInt8} {M : Bool} {T N2 N4 N8 N6 : Nat}
    (hM : decide (bt l 1 / 128 = 1) = M) (hT : bt l 1 % 128 = T) (h2 : gn l 2 2 = N2) (h4 : gn l 4 4 = N4) (h8 : gn l 8 4 = N8) (r1 : R32 w' w'.heap.size A1 (cN l) c1 (csrcOf l (cN l)))
    (h6 : (if isX l = true then gn l (hE l) 2 else 0) = N6) (r2 : R8 w' w'.heap.size A2 n2 c2 L2) (e2 : (if isX l = true then (l.drop (hE l + 4)).take (4 * wN l) else []) = L2) (r3 : R8 w' w'.heap.size A3 n3 c3 L3) (e3 : (l.drop (pS l)).take (pE l - pS l) = L3) (hb : Below w.heap.size w w') :
    ReadOut l w (.returned (.tuple #[.agg #[.bool M, .int .i64 (T : Int), .int .u16 (N2 : Int), .int .u32 (N4 : Int), .int .u32 (N8 : Int), .slice A1 (cN l) c1, .int .u16 (N6 : Int), .slice A2 n2 c2, .slice A3 n3 c3], .int .i64 0])) w' := by
  have e : rdP l = ⟨M, (T : Int), N2, N4, N8, csrcOf l (cN l), N6, L2, L3⟩ := by
    unfold rdP
    rw [if_pos h]
    unfold rdPk
    rw [hM, hT, h2, h4, h8, h6, e2, e3]
  have hin := rdP_in l hn
  rw [e] at hin
  have q2 := r2.1
  have q3 := r3.1
  subst q2 q3
  refine ⟨A1, c1, A2, c2, A3, c3, ?_, ?_, hb⟩
  · rw [e, h]; simp [Pkt.val, csrcOf_len]
  · rw [e]; exact ⟨by simpa [csrcOf_len] using r1, r2, r3, hin⟩
theorem gn_cut (l : List UInt8) (a m j k : Nat) (h : j + k ≤ m) : gn ((l.drop a).take m) j k = gn l (a + j) k := by
  unfold gn
  rw [List.drop_take, List.take_take, List.drop_drop, Nat.min_eq_left (by omega)]
theorem csrc_cut (l : List UInt8) (n : Nat) : ((List.range n).map fun i => gn ((l.drop 12).take (4 * n)) (4 * i) 4) = csrcOf l n := by
  unfold csrcOf
  apply List.map_congr_left
  intro i hi
  have := List.mem_range.1 hi
  exact gn_cut l 12 (4 * n) (4 * i) 4 (by omega)
theorem R8.setNot {w : World} {B n c : Nat} {A : Option Addr} {l : List UInt8} (h : R8 w B A n c l) {g i : Nat} {v : Value} (hp : w.cell? ⟨g, i, none⟩ = some v) (hv : ∀ x, v ≠ .int .u8 x) (u : Value) : R8 (w.setCell ⟨g, i, none⟩ u) B A n c l :=
  ⟨h.1, h.2.1, fun hn => by
    obtain ⟨b, off, e, hlt, hc⟩ := h.2.2 hn
    refine ⟨b, off, e, hlt, fun k hk => ?_⟩
    rw [World.cell?_setCell_other _ _ _ _ ?_]
    · exact hc k hk
    · intro e'
      rw [e', hc k hk] at hp
      injection hp with hp
      exact hv _ hp.symm⟩
theorem R32.setNot {w : World} {B n c : Nat} {A : Option Addr} {l : List Nat} (h : R32 w B A n c l) {g i : Nat} {v : Value} (hp : w.cell? ⟨g, i, none⟩ = some v) (hv : ∀ x, v ≠ .int .u32 x) (u : Value) : R32 (w.setCell ⟨g, i, none⟩ u) B A n c l :=
  ⟨h.1, h.2.1, h.2.2.1, fun hn => by
    obtain ⟨b, off, e, hlt, hc⟩ := h.2.2.2 hn
    refine ⟨b, off, e, hlt, fun k hk => ?_⟩
    rw [World.cell?_setCell_other _ _ _ _ ?_]
    · exact hc k hk
    · intro e'
      rw [e', hc k hk] at hp
      injection hp with hp
      exact hv _ hp.symm⟩
theorem R8.far {w w' : World} {R n c : Nat} {A : Option Addr} {l : List UInt8} (h : R8 w w.heap.size A n c l) (hR : Blk w R 28 #[.bool false, .int .i64 0, .int .u16 0, .int .u32 0, .int .u32 0, .slice none 0 0, .int .u16 0, .slice none 0 0, .slice none 0 0]) (hk : ∀ p : Addr, p.block ≠ R → w'.cell? p = w.cell? p) (hs : w'.heap.size = w.heap.size) : R8 w' w'.heap.size A n c l :=
  ⟨h.1, h.2.1, fun hn => by
    obtain ⟨q, off, e, hlt, hc⟩ := h.2.2 hn
    have hne : q ≠ R := fun e' => by
      subst e'
      have := hc 0 hn
      rw [hR.cell] at this
      match off, this with
      | 0, h => simp at h
      | 1, h => simp at h
      | 2, h => simp at h
      | 3, h => simp at h
      | 4, h => simp at h
      | 5, h => simp at h
      | 6, h => simp at h
      | 7, h => simp at h
      | 8, h => simp at h
      | o + 9, h => simp at h
    exact ⟨q, off, e, by omega, fun i hi => (hk ⟨q, off + i, none⟩ hne).trans (hc i hi)⟩⟩
theorem R32.far {w w' : World} {R n c : Nat} {A : Option Addr} {l : List Nat} (h : R32 w w.heap.size A n c l) (hA : ∀ ad, A = some ad → ad.block ≠ R) (hk : ∀ p : Addr, p.block ≠ R → w'.cell? p = w.cell? p) (hs : w'.heap.size = w.heap.size) : R32 w' w'.heap.size A n c l :=
  ⟨h.1, h.2.1, h.2.2.1, fun hn => by
    obtain ⟨q, off, e, hlt, hc⟩ := h.2.2.2 hn
    exact ⟨q, off, e, by omega, fun i hi => (hk ⟨q, off + i, none⟩ (show q ≠ R from hA ⟨q, off, none⟩ e)).trans (hc i hi)⟩⟩
theorem set9_size {v0 v1 v2 v3 v4 v5 v6 v7 v8 : Value} (W : World) (R : Nat) : (set9 W R v0 v1 v2 v3 v4 v5 v6 v7 v8).heap.size = W.heap.size := by
  simp [set9, World.setCell]
theorem set9_far {W : World} {R : Nat} {v0 v1 v2 v3 v4 v5 v6 v7 v8 : Value} (k : Nat) (h : k ≠ R) : (set9 W R v0 v1 v2 v3 v4 v5 v6 v7 v8).heap[k]? = W.heap[k]? := by
  unfold set9
  repeat rw [Below.heap_setCell _ _ _ _ h]
theorem size_setCell (w : World) (p : Addr) (u : Value) : (w.setCell p u).heap.size = w.heap.size := by simp [World.setCell]

/-! ### The ways that Read goes -/
theorem rerr_long {l : List UInt8} (h : 1500 < l.length) : rdErr l = 3 := by unfold rdErr; rw [if_pos h]
theorem rerr_none {l : List UInt8} (h : l.length = 0) : rdErr l = 13 := by unfold rdErr; rw [if_neg (by omega), if_pos h]
theorem rerr_version {l : List UInt8} (h1 : l.length ≤ 1500) (h0 : l.length ≠ 0) (h : bt l 0 / 64 ≠ 2) : rdErr l = 12 := by unfold rdErr; rw [if_neg (by omega), if_neg h0, if_pos h]
theorem rerr_fit {l : List UInt8} (h1 : l.length ≤ 1500) (h0 : l.length ≠ 0) (hv : bt l 0 / 64 = 2) (h : fit l = false) : rdErr l = 13 := by unfold rdErr; rw [if_neg (by omega), if_neg h0, if_neg (by omega), if_pos h]
theorem rerr_prof {l : List UInt8} (h1 : l.length ≤ 1500) (h0 : l.length ≠ 0) (hv : bt l 0 / 64 = 2) (hf : fit l = true) (hx : isX l = true) (h : gn l (hE l) 2 = 0) : rdErr l = 12 := by
  have e : noProf l = true := by unfold noProf; rw [hx, h]; rfl
  unfold rdErr; rw [if_neg (by omega), if_neg h0, if_neg (by omega), hf, if_neg (by simp), if_pos e]
theorem rerr_ok {l : List UInt8} (h1 : l.length ≤ 1500) (h0 : l.length ≠ 0) (hv : bt l 0 / 64 = 2) (hf : fit l = true) (h : isX l = true → gn l (hE l) 2 ≠ 0) : rdErr l = 0 := by
  have e : noProf l = false := by
    unfold noProf
    cases hx : isX l with
    | false => rfl
    | true => simp [h hx]
  unfold rdErr; rw [if_neg (by omega), if_neg h0, if_neg (by omega), hf, if_neg (by simp), e, if_neg (by simp)]
/-- What fits lies where it is said. -/
theorem fit_facts {l : List UInt8} (h : fit l = true) : 12 ≤ l.length ∧ (isX l = true → hE l + 4 ≤ l.length) ∧ pS l + padQ l ≤ l.length ∧ hE l ≤ pS l ∧ pS l ≤ pE l ∧ pE l ≤ l.length := by
  unfold fit at h
  simp only [Bool.and_eq_true, decide_eq_true_eq, Bool.or_eq_true, Bool.not_eq_true'] at h
  obtain ⟨h1, h2, _, h4⟩ := h
  have h5 : hE l ≤ pS l := by unfold pS; split <;> omega
  refine ⟨h1, fun hx => ?_, h4, h5, by unfold pE; omega, by unfold pE; omega⟩
  rcases h2 with h2 | h2
  · rw [hx] at h2; cases h2
  · exact h2
end Go.Proofs.Ytpcdmcaojgpfoaa
