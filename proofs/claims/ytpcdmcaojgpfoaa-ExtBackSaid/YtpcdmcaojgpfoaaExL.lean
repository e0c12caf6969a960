/- What the statements of chapter 4 take together: elements written and read again; texts as bytes; rows of elements as they are laid. -/
import Derived.Test.YtpcdmcaojgpfoaaExK
namespace Go.Proofs.Ytpcdmcaojgpfoaa.RP
open Go.RowKit
set_option linter.unusedVariables false
set_option linter.unusedSimpArgs false
set_option maxRecDepth 20000

theorem back {prof : Nat} (hp : prof = 48862 ∨ prof = 4096) (E : List El) (h8 : E.length ≤ 8) (hg : ∀ e ∈ E, badE (isOne prof) e = false) : elemsErr prof E = 0 ∧ errR prof (elemsB prof E) = 0 ∧ outR prof (elemsB prof E) = E.map El.dat := by
  have h0 := err_ok hp h8 hg
  have hB : elemsB prof E = padL (elBs (isOne prof) E) 4 := by
    unfold elemsB
    rw [if_pos h0]
  have hr := rdA_padL (isOne prof) E hg 4
  rw [← hB] at hr
  have := errR_ok hp hr (by rw [List.length_map]; omega)
  exact ⟨h0, this⟩
theorem elemsB_dat (prof : Nat) {E F : List El} (h : E.map El.dat = F.map El.dat) : elemsB prof E = elemsB prof F ∧ elemsErr prof E = elemsErr prof F := by
  have h1 : ∀ one, elBs one E = elBs one F := fun one => by
    have key : ∀ G : List El, elBs one G = (G.map El.dat).flatMap (fun x => (if one then [UInt8.ofNat (16 * x.1.toNat + x.2.length - 1)] else [UInt8.ofNat x.1.toNat, UInt8.ofNat x.2.length]) ++ x.2) := fun G => by
      unfold elBs
      rw [List.flatMap_map]
      rfl
    rw [key E, key F, h]
  have h2 : ∀ one, E.any (badE one) = F.any (badE one) := fun one => by
    have key : ∀ G : List El, G.any (badE one) = (G.map El.dat).any (fun x => badE one ⟨x.1, none, 0, x.2⟩) := fun G => by
      rw [List.any_map]
      rfl
    rw [key E, key F, h]
  have h3 : E.length = F.length := by have := congrArg List.length h; simpa using this
  have h4 : elemsErr prof E = elemsErr prof F := by
    unfold elemsErr
    rw [h2, h3]
  refine ⟨?_, h4⟩
  unfold elemsB
  rw [h4, h1]
/-- []byte(s). -/
theorem conv_str (s : ByteArray) (w : World) : ∃ c W', (convert 9 26 (.string s)).run Try.prog w = .ok (.slice (some ⟨w.heap.size, 0, none⟩) s.size c) W' ∧ R8 W' W'.heap.size (some ⟨w.heap.size, 0, none⟩) s.size c s.data.toList ∧ Below w.heap.size w W' ∧ W'.heap.size = w.heap.size + 1 := by
  have hc : s.size ≤ grownCap w s.size 0 5 := grownCap_ge w _ _ _
  refine ⟨_, _, run_bytes_of_string w 9 26 5 s Try.underlying9 Try.underlying26 Try.underlying5, ?_, (Below.refl w.heap.size w).drew.alloc (Nat.le_refl _) _, by show (w.heap.push _).size = _; simp⟩
  refine ⟨rfl, hc, fun _ => ⟨w.heap.size, 0, rfl, by show _ < (w.heap.push _).size; simp, fun i hi => ?_⟩⟩
  rw [Nat.zero_add]
  have h1 : (bytesRow s (grownCap w s.size 0 5))[i]? = some (.int .u8 (s.data[i].toNat : Int)) := bytesRow_at s _ i hi
  show (w.drew.alloc _).cell? ⟨w.drew.heap.size, i, none⟩ = _
  rw [World.cell?_alloc_mark, h1]
  have hi' : s.data[i]? = some (s.data[i]'hi) := Array.getElem?_eq_getElem hi
  simp [List.getD, hi']
/-- A row of two elements, as it is laid. -/
theorem re_two (w : World) (a b : El) (ha : I64 a.id ∧ R8 w w.heap.size a.A a.d.length a.c a.d) (hb : I64 b.id ∧ R8 w w.heap.size b.A b.d.length b.c b.d) :
    RE (w.alloc (.cells #[.int .i64 a.id, .slice a.A a.d.length a.c, .int .i64 b.id, .slice b.A b.d.length b.c] 51)) (w.alloc (.cells #[.int .i64 a.id, .slice a.A a.d.length a.c, .int .i64 b.id, .slice b.A b.d.length b.c] 51)).heap.size (some ⟨w.heap.size, 0, none⟩) 2 2 [a, b] := by
  have hal : Below w.heap.size w (w.alloc (.cells #[.int .i64 a.id, .slice a.A a.d.length a.c, .int .i64 b.id, .slice b.A b.d.length b.c] 51)) := (Below.refl _ w).alloc (Nat.le_refl _) _
  refine ⟨rfl, Nat.le_refl _, fun e he => ?_, fun _ => ⟨w.heap.size, 0, rfl, by simp, fun j u hj => ?_⟩⟩
  · rcases List.mem_cons.1 he with rfl | he
    · exact ⟨ha.1, ha.2.on hal⟩
    · rw [List.mem_singleton.1 he]
      exact ⟨hb.1, hb.2.on hal⟩
  · rw [Nat.zero_add]
    match j, hj with
    | 0, hj => simp [cellsE, El.cells] at hj; subst hj; simp
    | 1, hj => simp [cellsE, El.cells] at hj; subst hj; simp
    | 2, hj => simp [cellsE, El.cells] at hj; subst hj; simp
    | 3, hj => simp [cellsE, El.cells] at hj; subst hj; simp
    | j + 4, hj => simp [cellsE, El.cells] at hj
theorem ba_list (s : ByteArray) : (⟨s.data.toList.toArray⟩ : ByteArray) = s := by cases s; simp
/-- Of two elements, the second the name. -/
theorem rid_two {prof : Nat} (hp : prof = 48862 ∨ prof = 4096) (a b : El) (ha : a.id ≠ 1) (hb : b.id = 1) (hg : ∀ e ∈ [a, b], badE (isOne prof) e = false) : ridO prof (elemsB prof [a, b]) = if right ⟨b.d.toArray⟩ = true then some b.d else none := by
  obtain ⟨h1, h2, h3⟩ := back hp [a, b] (by simp) hg
  unfold ridO
  rw [if_pos h2, h3]
  have : fd ([a, b].map El.dat) 1 = some b.d := by
    simp [fd, El.dat, List.find?, ha, hb]
  rw [this]
theorem rid_first {prof : Nat} (hp : prof = 48862 ∨ prof = 4096) (b : El) (E : List El) (hb : b.id = 1) (h8 : E.length ≤ 7) (hg : ∀ e ∈ b :: E, badE (isOne prof) e = false) : ridO prof (elemsB prof (b :: E)) = if right ⟨b.d.toArray⟩ = true then some b.d else none := by
  obtain ⟨h1, h2, h3⟩ := back hp (b :: E) (by simp; omega) hg
  unfold ridO
  rw [if_pos h2, h3]
  have : fd ((b :: E).map El.dat) 1 = some b.d := by
    simp [fd, El.dat, List.find?, hb]
  rw [this]
end Go.Proofs.Ytpcdmcaojgpfoaa.RP
