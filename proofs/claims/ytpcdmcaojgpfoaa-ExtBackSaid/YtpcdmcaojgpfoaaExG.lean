/- Contracts: ext.Rid, limelightref3.Rid, of a packet that has a profile and an extension alone. -/
import Derived.Test.YtpcdmcaojgpfoaaExF
import Derived.Test.YtpcdmcaojgpfoaaRidB
namespace Go.Proofs.Ytpcdmcaojgpfoaa.RP
open Go.RowKit
set_option linter.unusedVariables false
set_option linter.unusedSimpArgs false
set_option maxRecDepth 20000

/-- The name that an extension tells. -/
def ridO (prof : Nat) (l : List UInt8) : Option (List UInt8) := if errR prof l = 0 then (match fd (outR prof l) 1 with | some d => if right ⟨d.toArray⟩ = true then some d else none | none => none) else none
def ridS (prof : Nat) (l : List UInt8) : ByteArray := ⟨((ridO prof l).getD []).toArray⟩
def ridK (prof : Nat) (l : List UInt8) : Bool := (ridO prof l).isSome
def RidOut (prof : Nat) (l : List UInt8) (w : World) (e : Ending) (w' : World) : Prop := e = .returned (.tuple #[.string (ridS prof l), .bool (ridK prof l)]) ∧ Below w.heap.size w w'
theorem RidOut.no {prof : Nat} {l : List UInt8} {w w' : World} (h : ridO prof l = none) (hb : Below w.heap.size w w') : RidOut prof l w (.returned (.tuple #[.string ⟨#[]⟩, .bool false])) w' := by
  unfold RidOut ridS ridK
  rw [h]
  exact ⟨rfl, hb⟩
theorem RidOut.yes {prof : Nat} {l d : List UInt8} {w w' : World} (h : ridO prof l = some d) (hb : Below w.heap.size w w') : RidOut prof l w (.returned (.tuple #[.string ⟨d.toArray⟩, .bool true])) w' := by
  unfold RidOut ridS ridK
  rw [h]
  exact ⟨rfl, hb⟩
theorem right_nil : right ⟨([] : List UInt8).toArray⟩ = false := by
  unfold right cnt
  rw [show (⟨([] : List UInt8).toArray⟩ : ByteArray).data.toList = [] from rfl, rn_nil]
  rfl
theorem ridO_err {prof : Nat} {l : List UInt8} (h : errR prof l ≠ 0) : ridO prof l = none := if_neg h
theorem ridO_no {prof : Nat} {l : List UInt8} (h : right ⟨(fdB (outR prof l) 1).toArray⟩ = false) : ridO prof l = none := by
  unfold ridO
  split
  · cases e : fd (outR prof l) 1 with
    | none => rfl
    | some d =>
      unfold fdB at h
      rw [e] at h
      simp only [Option.getD_some] at h
      simp only [h, Bool.false_eq_true, if_false]
  · rfl
theorem ridO_none {prof : Nat} {l : List UInt8} (h : fdK (outR prof l) 1 = false) : ridO prof l = none := by
  unfold ridO
  split
  · cases e : fd (outR prof l) 1 with
    | none => rfl
    | some d =>
      unfold fdK at h
      rw [e] at h
      cases h
  · rfl
theorem ridO_yes {prof : Nat} {l : List UInt8} (h0 : errR prof l = 0) (h : right ⟨(fdB (outR prof l) 1).toArray⟩ = true) : ridO prof l = some (fdB (outR prof l) 1) := by
  unfold ridO
  rw [if_pos h0]
  cases e : fd (outR prof l) 1 with
  | none =>
    unfold fdB at h
    rw [e] at h
    have := right_nil
    simp only [Option.getD_none] at h
    rw [this] at h
    cases h
  | some d =>
    unfold fdB at h ⊢
    rw [e] at h ⊢
    simp only [Option.getD_some] at h ⊢
    simp only [h, if_true]
theorem fdB_small (prof : Nat) (l : List UInt8) (id : Int) : (fdB (outR prof l) id).length ≤ 255 := by
  unfold fdB fd
  cases e : (outR prof l).find? (fun x => x.1 == id) with
  | none => simp
  | some x =>
    have h1 := List.mem_of_find?_eq_some e
    simpa using (outR_small prof l x h1).2.2
/-- The packet of a profile and an extension. -/
def pExt (prof : Nat) (A : Option Addr) (n c : Nat) : Value := .agg #[.bool false, .int .i64 0, .int .u16 0, .int .u32 0, .int .u32 0, .slice none 0 0, .int .u16 (prof : Int), .slice A n c, .slice none 0 0]
theorem els_small {prof : Nat} {l : List UInt8} {E : List El} (h : E.map El.dat = outR prof l) : E.length ≤ 8 ∧ ∀ e ∈ E, e.d.length ≤ 255 := by
  refine ⟨?_, fun e he => ?_⟩
  · have := outR_few prof l
    rw [← h, List.length_map] at this
    exact this
  · exact (outR_small prof l e.dat (by rw [← h]; exact List.mem_map_of_mem he)).2.2
set_option maxHeartbeats 2000000 in
theorem ext_rid (prof : Nat) (A : Option Addr) (n c : Nat) (l : List UInt8) (w : World) (h : R8 w w.heap.size A n c l) (hn : n ≤ 4000000) :
    Calls Try.prog 28 #[pExt prof A n c] w (RidOut prof l w) := by
  unfold pExt
  have hal : Below w.heap.size w (w.alloc (.cells #[.bool false, .int .i64 0, .int .u16 0, .int .u32 0, .int .u32 0, .slice none 0 0, .int .u16 (prof : Int), .slice A n c, .slice none 0 0] 28)) := (Below.refl _ w).alloc (Nat.le_refl _) _
  have hrd := ext_read prof A n c l _ (h.on hal) hn
  have hno := fun (w' : World) => @RidOut.no prof l w w'
  have hyes := fun (w' : World) d => @RidOut.yes prof l d w w'
  go_enter Try.func28, Try.ntmps28
  go_wp2_with fail
  refine hrd.mono ?_
  rintro e w1 ⟨A1, c1, E, rfl, hE, hRE, hb1⟩
  have hb1' := hal.trans (hb1.mono hal.size)
  clear hrd hal hb1
  by_cases he : errR prof l = 0
  rotate_left
  · have g0 : (errR prof l != 0) = true := by simpa using he
    have hf := hno w1 (ridO_err he) hb1'
    clear hno hyes hE hRE he
    generalize errR prof l = K at g0
    go_wp2_with fail
    go_ret2
    exact hf
  obtain ⟨s1, s2⟩ := els_small hE
  have hfi := fun W hW => ext_find A1 E.length c1 E 1 W (hRE.on hW) (by omega) (fun e he => by have := s2 e he; omega)
  rw [hE] at hfi
  have hey := fun hr => ridO_yes he hr
  have hsm := fdB_small prof l 1
  rw [he]
  clear s1 s2 hE he
  go_wp2_with fail
  refine (hfi _ (Below.refl _ _)).mono ?_
  rintro e w2 ⟨A2, m2, c2, rfl, hR2, hb2⟩
  have hm2 := hR2.1
  subst hm2
  have hb2' := hb1'.trans (hb2.mono hb1'.size)
  have hst := hR2.string (P := Try.prog) 26 5 9 Try.underlying26 Try.underlying5 Try.underlying9
  have hri := fun W => right_any ⟨(fdB (outR prof l) 1).toArray⟩ W (by show (fdB (outR prof l) 1).toArray.size ≤ _; simp; omega)
  clear hfi hRE hb1' hb2
  by_cases hr : right ⟨(fdB (outR prof l) 1).toArray⟩ = true
  · have hf := fun w' => hyes w' _ (hey hr)
    rw [hr] at hri
    clear hno hyes hey hr hR2 hsm
    generalize fdB (outR prof l) 1 = D at *
    go_wp2_with (go_at_call 53; refine (hri _).mono ?_; rintro e w3 ⟨rfl, hb3⟩)
    go_ret2
    exact hf _ (hb2'.trans (hb3.mono hb2'.size))
  · have hr' : right ⟨(fdB (outR prof l) 1).toArray⟩ = false := by simpa using hr
    have hf := fun w' => hno w' (ridO_no hr')
    rw [hr'] at hri
    clear hno hyes hey hr hr' hR2 hsm
    generalize fdB (outR prof l) 1 = D at *
    go_wp2_with (go_at_call 53; refine (hri _).mono ?_; rintro e w3 ⟨rfl, hb3⟩)
    go_ret2
    exact hf _ (hb2'.trans (hb3.mono hb2'.size))
set_option maxHeartbeats 2000000 in
theorem ref_ridp (prof : Nat) (A : Option Addr) (n c : Nat) (l : List UInt8) (w : World) (h : R8 w w.heap.size A n c l) (hn : n ≤ 4000000) :
    Calls Try.prog 29 #[pExt prof A n c] w (RidOut prof l w) := by
  unfold pExt
  have hal : Below w.heap.size w (w.alloc (.cells #[.bool false, .int .i64 0, .int .u16 0, .int .u32 0, .int .u32 0, .slice none 0 0, .int .u16 (prof : Int), .slice A n c, .slice none 0 0] 28)) := (Below.refl _ w).alloc (Nat.le_refl _) _
  have hrd := ref_readElems prof A n c l _ (h.on hal) hn
  have hno := fun (w' : World) => @RidOut.no prof l w w'
  have hyes := fun (w' : World) d => @RidOut.yes prof l d w w'
  go_enter Try.func29, Try.ntmps29
  go_wp2_with fail
  refine hrd.mono ?_
  rintro e w1 ⟨A1, c1, E, rfl, hE, hRE, hb1⟩
  have hb1' := hal.trans (hb1.mono hal.size)
  clear hrd hal hb1
  by_cases he : errR prof l = 0
  rotate_left
  · have g0 : (errR prof l != 0) = true := by simpa using he
    have hf := hno w1 (ridO_err he) hb1'
    clear hno hyes hE hRE he
    generalize errR prof l = K at g0
    go_wp2_with fail
    go_ret2
    exact hf
  obtain ⟨s1, s2⟩ := els_small hE
  have hfi := fun W hW => ref_find A1 E.length c1 E 1 W (hRE.on hW) (by omega) (fun e he => by have := s2 e he; omega)
  rw [hE] at hfi
  have hey := fun hr => ridO_yes he hr
  have hsm := fdB_small prof l 1
  rw [he]
  clear s1 s2 hE he
  go_wp2_with fail
  refine (hfi _ (Below.refl _ _)).mono ?_
  rintro e w2 ⟨A2, m2, c2, rfl, hR2, hb2⟩
  have hm2 := hR2.1
  subst hm2
  have hb2' := hb1'.trans (hb2.mono hb1'.size)
  have hst := hR2.string (P := Try.prog) 26 5 9 Try.underlying26 Try.underlying5 Try.underlying9
  have hri := fun W => ref_rid ⟨(fdB (outR prof l) 1).toArray⟩ W (by show (fdB (outR prof l) 1).toArray.size ≤ _; simp; omega)
  clear hfi hRE hb1' hb2
  by_cases hk : fdK (outR prof l) 1 = true
  rotate_left
  · have hk' : fdK (outR prof l) 1 = false := by simpa using hk
    have hf := fun w' => hno w' (ridO_none hk')
    rw [hk']
    clear hno hyes hey hk hk' hR2 hsm hri hst
    go_wp2_with fail
    go_ret2
    exact hf _ hb2'
  rw [hk]
  have hst' : Hid (∀ W, Below w2.heap.size w2 W → (convert 26 9 (.slice A2 (fdB (outR prof l) 1).length c2)).run Try.prog W = .ok (.string ⟨(fdB (outR prof l) 1).toArray⟩) W) := Lib.hid fun W hW => (hR2.on hW).string (P := Try.prog) 26 5 9 Try.underlying26 Try.underlying5 Try.underlying9
  clear hk
  by_cases hr : right ⟨(fdB (outR prof l) 1).toArray⟩ = true
  · have hf := fun w' => hyes w' _ (hey hr)
    rw [hr] at hri
    clear hno hyes hey hr hR2 hsm
    generalize fdB (outR prof l) 1 = D at *
    go_wp2_with (go_at_call 54; refine (hri _).mono ?_; rintro e w3 ⟨rfl, hb3⟩; have hst3 := hst'.out _ hb3)
    go_ret2
    exact hf _ (hb2'.trans (hb3.mono hb2'.size))
  · have hr' : right ⟨(fdB (outR prof l) 1).toArray⟩ = false := by simpa using hr
    have hf := fun w' => hno w' (ridO_no hr')
    rw [hr'] at hri
    clear hno hyes hey hr hr' hR2 hsm
    generalize fdB (outR prof l) 1 = D at *
    go_wp2_with (go_at_call 54; refine (hri _).mono ?_; rintro e w3 ⟨rfl, hb3⟩)
    go_ret2
    exact hf _ (hb2'.trans (hb3.mono hb2'.size))
end Go.Proofs.Ytpcdmcaojgpfoaa.RP
