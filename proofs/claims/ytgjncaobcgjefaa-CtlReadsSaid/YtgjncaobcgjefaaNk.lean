/- Contracts: ctl.Same of a message without layers, the law's known runs. A region that draws its order: operations that read memory which stays. No program's function. What stage 8's laws begin with: a tape of the numbers handed in; a message of it, and what is told of it. No program's function. -/
import Derived.Test.YtgjncaobcgjefaaClD
import Derived.Test.YtgjncaobcgjefaaReg
import Derived.Test.YtgjncaobcgjefaaCtV
import Derived.Test.YtgjncaobcgjefaaNc
namespace Go.Proofs.Ytgjncaobcgjefaa.RP
open Go.RowKit
set_option linter.unusedVariables false
set_option linter.unusedSimpArgs false
set_option maxRecDepth 20000

theorem equalL0 (A B : Option Addr) (c d : Nat) (w : World) : Calls Try.prog 42 #[.slice A 0 c, .slice B 0 d] w (Still (.bool true) w) := by
  go_enter Try.func42, Try.ntmps42
  go_wp2_with fail
  go_loopw [5, 13] (fun _ i wr => i = .int .i64 0 ∧ w = wr) (fun _ _ _ => 0)
  case atStart => exact ⟨rfl, rfl⟩
  obtain ⟨rfl, rfl⟩ := hrel
  go_wp2_with fail
  go_ret
  exact ⟨rfl, rfl⟩
set_option maxHeartbeats 4000000 in
theorem same_run (A B : Option Addr) (c d : Nat) (w : World) : Calls Try.prog 25 #[.agg #[.int .i64 4, .int .i64 0, .slice A 0 c, .int .i64 2, .int .i64 300, .int .i64 1, .int .i64 0, .int .i64 0], .agg #[.int .i64 4, .int .i64 0, .slice B 0 d, .int .i64 2, .int .i64 300, .int .i64 1, .int .i64 0, .int .i64 0]] w (Ans (.bool true) w) := by
  have b1 := (below_alloc w (.cells #[.int .i64 4, .int .i64 0, .slice A 0 c, .int .i64 2, .int .i64 300, .int .i64 1, .int .i64 0, .int .i64 0] 25)).alloc (by simp) (.cells #[.int .i64 4, .int .i64 0, .slice B 0 d, .int .i64 2, .int .i64 300, .int .i64 1, .int .i64 0, .int .i64 0] 25)
  go_enter Try.func25, Try.ntmps25
  go_wp2_with fail
  refine (equalL0 A B c d _).mono ?_
  rintro e w' ⟨rfl, rfl⟩
  go_wp2_with fail
  go_ret
  exact ⟨rfl, b1⟩
theorem ok_1 : Ctl.Ok ⟨2, 0, [], 0, 0, 0, 0, 0⟩ := (Ctl.ok_iff _).1 (by kernel_rfl)
theorem ok_2 : Ctl.Ok ⟨4, 0, [], 2, 300, 1, 0, 0⟩ := (Ctl.ok_iff _).1 (by kernel_rfl)
theorem bytes_1 : Ctl.bytes ⟨2, 0, [], 0, 0, 0, 0, 0⟩ = [2, 0, 0] := by kernel_rfl
theorem bytes_2 : Ctl.bytes ⟨4, 0, [], 2, 300, 1, 0, 0⟩ = [4, 0, 10, 3, 1, 2, 4, 2, 1, 44, 5, 1, 1] := by kernel_rfl
theorem rd_2 : rdM [4, 0, 10, 3, 1, 2, 4, 2, 1, 44, 5, 1, 1] = (⟨4, 0, [], 2, 300, 1, 0, 0⟩, 0) := by
  rw [← bytes_2]
  exact rd_bytes ok_2 (by simp)
theorem run_1 (w : World) : Calls Try.prog 8 #[.agg #[.int .i64 2, .int .i64 0, .slice none 0 0, .int .i64 0, .int .i64 0, .int .i64 0, .int .i64 0, .int .i64 0]] w (BytesC [2, 0, 0] 0 w) := by
  have h := bytes_yes ⟨2, 0, [], 0, 0, 0, 0, 0⟩ ok_1 none 0 w (RL.nil _ _ _ _)
  rw [bytes_1] at h
  exact h
theorem run_2 (w : World) : Calls Try.prog 8 #[.agg #[.int .i64 4, .int .i64 0, .slice none 0 0, .int .i64 2, .int .i64 300, .int .i64 1, .int .i64 0, .int .i64 0]] w (BytesC [4, 0, 10, 3, 1, 2, 4, 2, 1, 44, 5, 1, 1] 0 w) := by
  have h := bytes_yes ⟨4, 0, [], 2, 300, 1, 0, 0⟩ ok_2 none 0 w (RL.nil _ _ _ _)
  rw [bytes_2] at h
  exact h
def Rd2 (w : World) (e : Ending) (w' : World) : Prop := ∃ A cp, e = .returned (.tuple #[.agg #[.int .i64 4, .int .i64 0, .slice A 0 cp, .int .i64 2, .int .i64 300, .int .i64 1, .int .i64 0, .int .i64 0], .int .i64 0]) ∧ Below w.heap.size w w'
theorem run_3 (A : Option Addr) (cp : Nat) (w : World) (h : R8 w w.heap.size A 13 cp [4, 0, 10, 3, 1, 2, 4, 2, 1, 44, 5, 1, 1]) : Calls Try.prog 9 #[.slice A 13 cp] w (Rd2 w) := by
  refine (read_any A 13 cp _ w h (by omega)).mono ?_
  rintro e w' ⟨A', c', he, _, _, hb⟩
  rw [rd_2] at he
  exact ⟨A', c', he, hb⟩
def Rd0 (w : World) (e : Ending) (w' : World) : Prop := ∃ A cp, e = .returned (.tuple #[.agg #[.int .i64 0, .int .i64 0, .slice A 0 cp, .int .i64 0, .int .i64 0, .int .i64 0, .int .i64 0, .int .i64 0], .int .i64 13]) ∧ Below w.heap.size w w'
theorem run_4 (w : World) : Calls Try.prog 9 #[.slice none 0 0] w (Rd0 w) := by
  refine (read_any none 0 0 [] w (R8.nil _ _ _ _) (by omega)).mono ?_
  rintro e w' ⟨A', c', he, _, _, hb⟩
  exact ⟨A', c', he, hb⟩
theorem run_5 (w : World) : Calls Try.prog 14 #[.slice none 0 0] w (Ans (.int .i64 26) w) := ctl_layers [] none 0 0 w (RL.nil _ _ _ _) (by omega)
theorem run_6 (w : World) : Calls Try.prog 16 #[.agg #[.int .i64 0, .int .i64 0, .slice none 0 0, .int .i64 0, .int .i64 0, .int .i64 0, .int .i64 0, .int .i64 0]] w (Ans (.int .i64 12) w) := by
  have h := right_ctl zC none 0 w (RL.nil _ _ _ _) (by show (0 : Nat) ≤ 1000000; omega)
  rw [show zC.err = 12 by kernel_rfl] at h
  exact h
theorem run_7 (w : World) : Calls Try.prog 16 #[.agg #[.int .i64 2, .int .i64 1, .slice none 0 0, .int .i64 0, .int .i64 0, .int .i64 0, .int .i64 0, .int .i64 0]] w (Ans (.int .i64 12) w) := by
  have h := right_ctl ⟨2, 1, [], 0, 0, 0, 0, 0⟩ none 0 w (RL.nil _ _ _ _) (by show (0 : Nat) ≤ 1000000; omega)
  rw [show Ctl.err ⟨2, 1, [], 0, 0, 0, 0, 0⟩ = 12 by kernel_rfl] at h
  exact h
set_option maxHeartbeats 8000000 in
theorem known8 (w : World) : Calls Try.prog 12 #[] w (Ans (.bool true) w) := by
  go_enter Try.func12, Try.ntmps12
  go_wp2_with fail
  refine (run_1 w).mono ?_
  rintro e w1 ⟨v1, rfl, o1, b1⟩
  obtain ⟨A1, c1, rfl, r1, f1⟩ := o1.r8n
  simp only [List.length_cons, List.length_nil, Nat.zero_add, Nat.reduceAdd] at r1 ⊢
  clear o1 f1
  go_wp2_with fail
  refine (run_2 w1).mono ?_
  rintro e w2 ⟨v2, rfl, o2, b2⟩
  obtain ⟨A2, c2, rfl, r2, f2⟩ := o2.r8n
  simp only [List.length_cons, List.length_nil, Nat.zero_add, Nat.reduceAdd] at r2 ⊢
  have r1 := r1.on b2
  have y2 := b1.trans (b2.mono b1.size)
  clear o2 f2 b1 b2
  go_wp2_with fail
  refine (run_3 A2 c2 w2 r2).mono ?_
  rintro e w3 ⟨A3, c3, rfl, b3⟩
  have r1 := r1.on b3
  have r2 := r2.on b3
  have y3 := y2.trans (b3.mono y2.size)
  clear b3 y2
  have r1 := r1.on (below_alloc w3 (.cells #[.int .i64 4, .int .i64 0, .slice A3 0 c3, .int .i64 2, .int .i64 300, .int .i64 1, .int .i64 0, .int .i64 0] 25))
  have r2 := r2.on (below_alloc w3 (.cells #[.int .i64 4, .int .i64 0, .slice A3 0 c3, .int .i64 2, .int .i64 300, .int .i64 1, .int .i64 0, .int .i64 0] 25))
  have y4 := y3.trans ((below_alloc w3 (.cells #[.int .i64 4, .int .i64 0, .slice A3 0 c3, .int .i64 2, .int .i64 300, .int .i64 1, .int .i64 0, .int .i64 0] 25)).mono y3.size)
  have hB := Blk.new w3 25 #[.int .i64 4, .int .i64 0, .slice A3 0 c3, .int .i64 2, .int .i64 300, .int .i64 1, .int .i64 0, .int .i64 0]
  clear y3
  go_wp2_with fail
  refine (run_4 _).mono ?_
  rintro e w4 ⟨A4, c4, rfl, b4⟩
  have r1 := r1.on b4
  have r2 := r2.on b4
  have hB := hB.below b4 hB.lt
  have hgl := hB.lt
  have y5 := y4.trans (b4.mono y4.size)
  clear b4 y4
  have ba := below_alloc w4 (.cells #[.int .i64 0, .int .i64 0, .slice A4 0 c4, .int .i64 0, .int .i64 0, .int .i64 0, .int .i64 0, .int .i64 0] 25)
  have r1 := r1.on ba
  have r2 := r2.on ba
  have hB := hB.below ba hgl
  have y6 := y5.trans (ba.mono y5.size)
  have s1 := r1.string 30 5 9 (P := Try.prog) Try.underlying30 Try.underlying5 Try.underlying9
  have s2 := r2.string 30 5 9 (P := Try.prog) Try.underlying30 Try.underlying5 Try.underlying9
  obtain ⟨k0, k1, k2, k3, k4, k5, k6, k7⟩ := blk8c hB
  clear r1 r2 ba y5 hgl
  go_wp2_with fail
  clear s1 s2 k0 k1 k2 k3 k4 k5 k6 k7
  have hgl := hB.lt
  refine (run_5 _).mono ?_
  rintro e w5 ⟨rfl, b5⟩
  have hB := hB.below b5 hgl
  have y7 := y6.trans (b5.mono y6.size)
  have hgl := hB.lt
  clear b5 y6
  go_wp2_with fail
  refine (run_6 _).mono ?_
  rintro e w6 ⟨rfl, b6⟩
  have hB := hB.below b6 hgl
  have y8 := y7.trans (b6.mono y7.size)
  have hgl := hB.lt
  clear b6 y7
  obtain ⟨k0, k1, k2, k3, k4, k5, k6, k7⟩ := blk8c hB
  go_wp2_with fail
  refine (same_run _ _ _ _ _).mono ?_
  rintro e w7 ⟨rfl, b7⟩
  have y9 := y8.trans (b7.mono y8.size)
  clear b7 y8 k0 k1 k2 k3 k4 k5 k6 k7
  go_wp2_with fail
  refine (run_7 _).mono ?_
  rintro e w8 ⟨rfl, b8⟩
  have yA := y9.trans (b8.mono y9.size)
  clear b8 y9
  go_wp2_with fail
  go_ret
  exact ⟨rfl, yA⟩
end Go.Proofs.Ytgjncaobcgjefaa.RP
namespace Go.Proofs.Ytgjncaobcgjefaa
open Go.RowKit
set_option linter.unusedVariables false
set_option linter.unusedSimpArgs false
set_option maxRecDepth 20000

/-- An operation that answers one value in any world that keeps what was there, and turns nothing. -/
theorem Obl.pure {P : Program} {ops : Array Oper} {tbl : List Cl} {a0 : Act} {w0 : World} {Q : Exit → Act → World → Prop} {i : Nat} {o : Oper} (hg : gOk ops tbl i o) (v : Value) (ht : tblAt tbl i = .val v)
    (hr : ∀ (ev : Operand → Value) (w : World), Below w0.heap.size w0 w → (∀ x, (clOf ops tbl a0 i x).holds (ev x) w) → (execOp ev o).run P w = .ok (.value v) w) : Obl P ops tbl a0 w0 Q i o :=
  Obl.mk hg fun a w hb hx K hK => by
    have h := hK v w (Below.refl _ _) (by rw [ht]; rfl)
    unfold Oper.wp
    rw [hr a.eval w hb hx]
    exact h
/-- A call that answers one value. -/
theorem Val.holds {w w' : World} {e : Ending} {c : Cl} {v : Value} (hc : c = .val v) (h : e = .returned v ∧ Below w.heap.size w w') : ∃ v, e = .returned v ∧ Below w.heap.size w w' ∧ c.holds v w' := by
  subst hc
  exact ⟨_, h.1, h.2, rfl⟩
theorem eql_strs (l r : List UInt8) (D : Bool) (h : (l == r) = D) (x y : Operand) (w : World) : (do eqGuard .eql 9 x y (.string ⟨l.toArray⟩) (.string ⟨r.toArray⟩); binOp .eql 9 (.string ⟨l.toArray⟩) (.string ⟨r.toArray⟩) : Sem Value).run Try.prog w = .ok (.bool D) w := by
  subst h
  simp [eqGuard, go_sem]
theorem neq_strs (l r : List UInt8) (D : Bool) (h : (l != r) = D) (x y : Operand) (w : World) : (do eqGuard .neq 9 x y (.string ⟨l.toArray⟩) (.string ⟨r.toArray⟩); binOp .neq 9 (.string ⟨l.toArray⟩) (.string ⟨r.toArray⟩) : Sem Value).run Try.prog w = .ok (.bool D) w := by
  subst h
  simp [eqGuard, go_sem, bne]
theorem drew_below (w : World) : Below w.heap.size w w.drew := (Below.refl _ w).drew
end Go.Proofs.Ytgjncaobcgjefaa
namespace Go.Proofs.Ytgjncaobcgjefaa.RP
open Go.RowKit
set_option linter.unusedVariables false
set_option linter.unusedSimpArgs false
set_option maxRecDepth 20000

theorem tape_at8 {w : World} {A : Option Addr} {n c : Nat} (h : RI w w.heap.size A n c) (hn : n ≤ 281474976710656) : TapeAt (w.alloc (.cells #[.slice A n c, .int .i64 0] 28)) w.heap.size :=
  ⟨A, n, c, 0, Blk.new _ _ _, Nat.zero_le _, hn, h.keep ((Below.refl _ w).alloc (Nat.le_refl _) _)⟩
theorem RI.on8 {w w' : World} {A : Option Addr} {n c : Nat} (h : RI w w.heap.size A n c) (hb : Below w.heap.size w w') : RI w' w'.heap.size A n c :=
  ⟨h.1, fun hn => by
    obtain ⟨b, off, e, hlt, hc⟩ := (h.keep hb).2 hn
    exact ⟨b, off, e, Nat.lt_of_lt_of_le hlt hb.size, hc⟩⟩
/-- What Read answers of a right message's bytes. -/
def RdX (x : Ctl) (w : World) (e : Ending) (w' : World) : Prop := ∃ A cp, e = .returned (.tuple #[x.val A cp, .int .i64 0]) ∧ IsC w' w'.heap.size x A cp ∧ Below w.heap.size w w'
/-- .. and of other bytes: a refusal. -/
def RdE (er : Int) (w : World) (e : Ending) (w' : World) : Prop := ∃ A cp, e = .returned (.tuple #[.agg #[.int .i64 0, .int .i64 0, .slice A 0 cp, .int .i64 0, .int .i64 0, .int .i64 0, .int .i64 0, .int .i64 0], .int .i64 er]) ∧ Below w.heap.size w w'
theorem read_x {x : Ctl} (ok : x.Ok) (hi : ∀ y ∈ x.layers, y.In) (A : Option Addr) (n c : Nat) (w : World) (h : R8 w w.heap.size A n c x.bytes) (hn : n ≤ 140737488355328) : Calls Try.prog 9 #[.slice A n c] w (RdX x w) := by
  refine (read_any A n c _ w h hn).mono ?_
  rintro e w' ⟨A', c', he, hi', _, hb⟩
  rw [rd_bytes ok hi] at he hi'
  exact ⟨A', c', he, hi', hb⟩
theorem read_e {b : List UInt8} {er : Int} (hr : rdM b = (zC, er)) (A : Option Addr) (n c : Nat) (w : World) (h : R8 w w.heap.size A n c b) (hn : n ≤ 140737488355328) : Calls Try.prog 9 #[.slice A n c] w (RdE er w) := by
  refine (read_any A n c _ w h hn).mono ?_
  rintro e w' ⟨A', c', he, hi', _, hb⟩
  rw [hr] at he
  exact ⟨A', c', he, hb⟩
theorem run_cut_hi8 (w : World) (A : Option Addr) (n c k : Nat) (hk : k ≤ c) :
    (Instr.slice 30 (.slice A n c) none (some (.int .i64 (k : Int))) none).run Try.prog w = .ok (.slice A k c) w := by
  have e : (if c = 0 then A else A.map (·.add 0)) = A := by
    split
    · rfl
    · cases A with
      | none => rfl
      | some a => simp [Addr.add]
  have hs : (Try.prog.elem 30) = 5 := by simp [Program.elem, Try.underlying30]
  have h3 := run_slice_h (P := Try.prog) w 30 A n c (by rw [hs]; exact Try.underlying30) .i64 (k : Nat) (by omega) (by omega)
  rw [hs] at h3
  obtain ⟨i0, hi0, hz0, hz1, hz2⟩ := info_parts u8_info
  rw [h3]
  simp [sizeOf, typeInfo, hi0, hz1, sliced, Result.andThen, e]
theorem ctl_small {x : Ctl} (ok : x.Ok) : 3 ≤ x.bytes.length ∧ x.bytes.length ≤ 51 := by
  have h1 := bytes_len x
  have h2 := body_len ok
  omega
end Go.Proofs.Ytgjncaobcgjefaa.RP
