/- Reports that are read one behind the other. Plain mathematics, and what stands in memory while they are. Contract: limelightref1.Cut. A region that draws its order: operations that read memory which stays. No program's function. -/
import Derived.Test.YtnchgmemajmkjaaRcX
import Derived.Test.YtnchgmemajmkjaaBase
import Derived.Test.YtnchgmemajmkjaaReg
namespace Go.Proofs.Ytnchgmemajmkjaa
open Go.RowKit
set_option linter.unusedVariables false
set_option linter.unusedSimpArgs false
set_option maxRecDepth 20000

def rdN (l : List UInt8) : Nat := num ((l.drop 2).take 2)
def rdX (l : List UInt8) : List UInt8 := l.take (4 + 4 * rdN l)
def rdT (l : List UInt8) : Nat := (l.getD 1 0).toNat
def rdC (l : List UInt8) : Nat := (l.getD 0 0).toNat % 32
def rdR (l : List UInt8) : Rep := parseR (rdT l) (rdC l) (wsOf ((rdX l).drop 4))
/-- It is not all there. -/
def rdShort (l : List UInt8) : Bool := decide (l.length < 4) || decide (l.length < 4 + 4 * rdN l)
/-- Its head is none. -/
def rdForm (l : List UInt8) : Bool := decide ((l.getD 0 0).toNat / 32 ≠ 4) || (decide (rdT l < 192) || decide (223 < rdT l))
/-- What it reads as is not right, or would be written otherwise. -/
def rdBad (l : List UInt8) : Bool := decide ((rdR l).err ≠ 0) || decide ((rdR l).one ≠ shortB (rdX l) (rdR l))
def rdAcc : Nat → List Rep → List UInt8 → Int × List Rep
  | 0, acc, _ => (0, acc)
  | f + 1, acc, l => if l.length = 0 then (0, acc) else if rdShort l = true then (13, []) else if rdForm l = true then (12, []) else if rdBad l = true then (12, []) else rdAcc f (acc ++ [rdR l]) (l.drop (4 + 4 * rdN l))
def rdReps (b : List UInt8) : Int × List Rep := if 1500 < b.length then (3, []) else if b.length = 0 then (13, []) else rdAcc (b.length + 1) [] b
theorem rdAcc_end {f : Nat} {acc : List Rep} {l : List UInt8} (h : l.length = 0) : rdAcc f acc l = (0, acc) := by
  cases f with
  | zero => rfl
  | succ f => exact if_pos h
theorem rdAcc_short {f : Nat} {acc : List Rep} {l : List UInt8} (h0 : l.length ≠ 0) (h : rdShort l = true) : rdAcc (f + 1) acc l = (13, []) := by
  show (if _ then _ else _) = _
  rw [if_neg h0, if_pos h]
theorem rdAcc_form {f : Nat} {acc : List Rep} {l : List UInt8} (h0 : l.length ≠ 0) (h : rdShort l = false) (h1 : rdForm l = true) : rdAcc (f + 1) acc l = (12, []) := by
  show (if _ then _ else _) = _
  rw [if_neg h0, if_neg (by rw [h]; decide), if_pos h1]
theorem rdAcc_bad {f : Nat} {acc : List Rep} {l : List UInt8} (h0 : l.length ≠ 0) (h : rdShort l = false) (h1 : rdForm l = false) (h2 : rdBad l = true) : rdAcc (f + 1) acc l = (12, []) := by
  show (if _ then _ else _) = _
  rw [if_neg h0, if_neg (by rw [h]; decide), if_neg (by rw [h1]; decide), if_pos h2]
theorem rdAcc_more {f : Nat} {acc : List Rep} {l : List UInt8} (h0 : l.length ≠ 0) (h : rdShort l = false) (h1 : rdForm l = false) (h2 : rdBad l = false) : rdAcc (f + 1) acc l = rdAcc f (acc ++ [rdR l]) (l.drop (4 + 4 * rdN l)) := by
  show (if _ then _ else _) = _
  rw [if_neg h0, if_neg (by rw [h]; decide), if_neg (by rw [h1]; decide), if_neg (by rw [h2]; decide)]
theorem rdN_lt (l : List UInt8) : rdN l < 65536 := by
  have h := num_lt ((l.drop 2).take 2)
  have h2 : ((l.drop 2).take 2).length ≤ 2 := by rw [List.length_take]; omega
  unfold rdN
  have h3 : 256 ^ ((l.drop 2).take 2).length ≤ 256 ^ 2 := Nat.pow_le_pow_right (by omega) h2
  omega
/-! ### A row of reports that the call owns -/
def OwnR (w : World) (base : Nat) (v : Value) (L : List Rv) : Prop := w.ownsRow base 33 10 v L.length (cellsR L)
theorem report_info : (Try.prog.info? 33).map (fun i => (i.zero, i.size, i.bytes)) = some (some (.agg #[.int .i64 0, .int .u32 0, .int .u32 0, .slice none 0 0, .slice none 0 0, .slice none 0 0, .int .u64 0, .int .i64 0, .int .i64 0, .slice none 0 0]), 10, 136) := by kernel_rfl
theorem cellsR_one (L : List Rv) : ∀ u ∈ cellsR L, u.oneCell' = true := by
  intro u hu
  obtain ⟨t, _, h⟩ := List.mem_flatMap.1 hu
  simp only [Rv.cells, List.mem_cons, List.not_mem_nil, or_false] at h
  rcases h with rfl | rfl | rfl | rfl | rfl | rfl | rfl | rfl | rfl | rfl <;> rfl
theorem cellsR_append (L M : List Rv) : cellsR (L ++ M) = cellsR L ++ cellsR M := by simp [cellsR]
theorem Rv.cells_len (x : Rv) : x.cells.length = 10 := rfl
/-- The reports of a row read; their slices lie off the row's block. -/
structure RowR (w : World) (base : Nat) (v : Value) (L : List Rv) : Prop where
  own : OwnR w base v L
  reads : ∀ x ∈ L, IsR w w.heap.size x
  off : ∀ x ∈ L, ∀ k, v.ownBlock = some k → x.Off k
  low : ∀ x ∈ L, ∀ ad, (x.At = some ad ∨ x.Aa = some ad ∨ x.An = some ad ∨ x.Ab = some ad) → ad.block < w.heap.size
theorem RowR.nil (w : World) (base : Nat) : RowR w base (.slice none 0 0) [] := ⟨World.ownsRow_nil _ _ _ _, (fun x hx => by cases hx), (fun x hx => by cases hx), (fun x hx => by cases hx)⟩
theorem RowR.on {w w' : World} {base : Nat} {v : Value} {L : List Rv} (h : RowR w base v L) (hb : Below w.heap.size w w') : RowR w' base v L :=
  ⟨own_keep h.own hb, fun x hx => (h.reads x hx).on hb, h.off, fun x hx ad ha => Nat.lt_of_lt_of_le (h.low x hx ad ha) hb.size⟩
theorem RowR.rr {w : World} {base : Nat} {v : Value} {L : List Rv} (h : RowR w base v L) : ∃ A c, v = .slice A L.length c ∧ RR w w.heap.size A L.length c L := by
  obtain ⟨A, c, e, hr, _⟩ := own_rx (cellsR_len L) h.own
  exact ⟨A, c, e, rfl, h.reads, hr⟩
/-- One more report: new since the row was written last. -/
theorem RowR.push {w w' : World} {base : Nat} {v v' : Value} {L : List Rv} {x : Rv} (h : RowR w base v L) (hx : IsR w w.heap.size x) (hoff : ∀ k, v.ownBlock = some k → x.Off k) (hlow : ∀ ad, (x.At = some ad ∨ x.Aa = some ad ∨ x.An = some ad ∨ x.Ab = some ad) → ad.block < w.heap.size)
    (ha : AppG w base 33 10 v (L.length + 1) (cellsR L ++ cellsR [x]) v' w') : RowR w' base v' (L ++ [x]) := by
  have hall : ∀ y ∈ L ++ [x], IsR w w.heap.size y ∧ (∀ k, v.ownBlock = some k → y.Off k) ∧ ∀ ad, (y.At = some ad ∨ y.Aa = some ad ∨ y.An = some ad ∨ y.Ab = some ad) → ad.block < w.heap.size := by
    intro y hy
    rcases List.mem_append.1 hy with hy | hy
    · exact ⟨h.reads y hy, h.off y hy, h.low y hy⟩
    · rw [List.mem_singleton.1 hy]
      exact ⟨hx, hoff, hlow⟩
  refine ⟨?_, fun y hy => ?_, fun y hy k hk ad had => ?_, fun y hy ad had => ?_⟩
  · unfold OwnR
    rw [List.length_append, cellsR_append]
    exact ha.1
  · obtain ⟨h1, h2, h3⟩ := hall y hy
    rcases hv : v.ownBlock with _ | k
    · have hg : w.grownBy w' none := by have := ha.2.1; rwa [hv] at this
      exact h1.but (R := w'.heap.size) ⟨hg.size, fun k hk _ => hg.block k hk (by simp)⟩ (fun ad had => by have := h3 ad had; have := hg.size; omega)
    · have hg : w.grownBy w' (some k) := by have := ha.2.1; rwa [hv] at this
      exact h1.but (but_grown hg (fun j e => by injection e with e; exact e.symm)) (h2 k hv)
  · obtain ⟨h1, h2, h3⟩ := hall y hy
    rcases ha.2.2 with e | e
    · rw [e] at hk
      exact h2 k hk ad had
    · rw [e] at hk
      injection hk with hk
      have := h3 ad had
      omega
  · have := (hall y hy).2.2 ad had
    have := ha.2.1.size
    omega
end Go.Proofs.Ytnchgmemajmkjaa
namespace Go.Proofs.Ytnchgmemajmkjaa
open Go.RowKit
set_option linter.unusedVariables false
set_option linter.unusedSimpArgs false
set_option maxRecDepth 20000

/-- ref.Cut -/
theorem ref_cut_yes (A : Option Addr) (n c : Nat) (l : List UInt8) (w : World) (h : R8 w w.heap.size A n c l) (hn : n ≤ 140737488355328) (i k : Nat) (ht : i + k ≤ n) :
    Calls Try.prog 56 #[.slice A n c, .int .i64 i, .int .i64 k] w (Out8b w ((l.drop i).take k) true) := by
  have hc := h.2.1
  have g1 : decide ((i : Int) < 0) = false := by simp
  have g2 : decide ((k : Int) < 0) = false := by simp
  have g3 : decide ((n : Int) < (i : Int)) = false := by simp; omega
  have g4 : decide ((n : Int) - (i : Int) < (k : Int)) = false := by simp; omega
  have hcut := fun W => run_cut (P := Try.prog) 31 5 Try.underlying31 u8_size A n c .i64 .i64 i (i + k) (by omega) (by omega) (by omega) W
  have hr := h.cut i (i + k) (by omega) ht
  have e1 : i + k - i = k := by omega
  have e2 : ((i : Int) + (k : Int)).toNat = i + k := by omega
  simp only [e1, e2, Int.toNat_natCast] at hcut hr
  clear e1 e2
  obtain ⟨L, hL⟩ : ∃ L, L = (l.drop i).take k := ⟨_, rfl⟩
  rw [← hL] at hr ⊢
  clear hL h
  have hbb : ([] : List UInt8).length + k ≤ 140737488355328 := by simp; omega
  go_enter Try.func56, Try.ntmps56
  go_wp2_with (at_builtin; with_reducible refine wpList_append8 rfl (.tmp 28) (.tmp 34) rfl rfl w.heap.size _ [] rfl (Own8.empty _ _ (Nat.le_refl _)) w.heap.size _ k _ L rfl (hr.alloc (Nat.le_refl _) _) hbb (by simp) ?_; intro v1 w1 ha1)
  go_ret2
  have hb1 := ha1.below ((Below.refl _ _).alloc (Nat.le_refl _) _) (by simp) (Own8.empty _ _ (Nat.le_refl _)) (Nat.le_refl _)
  obtain ⟨A1, c1, hv1, hr1⟩ := ha1.1.r8
  exact ⟨A1, _, c1, by rw [← hv1]; rfl, hr1, hb1⟩
theorem ref_cut_no (A : Option Addr) (n c : Nat) (w : World) (hn : n ≤ 140737488355328) (i k : Int) (hi : I64 i) (ht : thB n i k = false) :
    Calls Try.prog 56 #[.slice A n c, .int .i64 i, .int .i64 k] w fun e w' => e = .returned (.tuple #[.slice none 0 0, .bool false]) ∧ w = w' := by
  have ht' : i < 0 ∨ k < 0 ∨ (n : Int) - i < k := by simp [thB] at ht; omega
  by_cases c1 : i < 0
  · have g1 : decide (i < 0) = true := by simp; omega
    clear ht ht'
    go_enter Try.func56, Try.ntmps56
    go_wp2
    go_ret2
    exact ⟨rfl, rfl⟩
  · have g1 : decide (i < 0) = false := by simp; omega
    by_cases c2 : k < 0
    · have g2 : decide (k < 0) = true := by simp; omega
      clear ht ht'
      go_enter Try.func56, Try.ntmps56
      go_wp2
      go_ret2
      exact ⟨rfl, rfl⟩
    · have g2 : decide (k < 0) = false := by simp; omega
      by_cases c3 : (n : Int) < i
      · have g3 : decide ((n : Int) < i) = true := by simp; omega
        clear ht ht'
        go_enter Try.func56, Try.ntmps56
        go_wp2
        go_ret2
        exact ⟨rfl, rfl⟩
      · have g3 : decide ((n : Int) < i) = false := by simp; omega
        have g4 : decide ((n : Int) - i < k) = true := by simp; omega
        have c3' : i ≤ (n : Int) := by omega
        have c1' : 0 ≤ i := by omega
        clear ht ht'
        go_enter Try.func56, Try.ntmps56
        go_wp2
        go_ret2
        exact ⟨rfl, rfl⟩
section
variable (A : Option Addr) (n c : Nat) (l : List UInt8) (w : World)
theorem ref_cut_any (h : R8 w w.heap.size A n c l) (hn : n ≤ 140737488355328) (i k : Int) (hi : I64 i) :
    Calls Try.prog 56 #[.slice A n c, .int .i64 i, .int .i64 k] w (Out8b w (cut8 l i k) (thB n i k)) := by
  have hl := h.1
  by_cases ht : thB n i k = true
  · obtain ⟨a, b, rfl, rfl, hab⟩ := th_nat ht
    have e1 : cut8 l a b = (l.drop a).take b := by simp [cut8, hl, ht]
    rw [e1, ht]
    exact ref_cut_yes A n c l w h hn a b hab
  · have e1 : cut8 l i k = [] := by simp [cut8, hl, ht]
    have e2 : thB n i k = false := by simpa using ht
    rw [e1, e2]
    exact (ref_cut_no A n c w hn i k hi e2).mono fun e w' ⟨he, hw⟩ => by subst he; subst hw; exact ⟨_, _, _, rfl, R8.nil _ _ _ _, Below.refl _ _⟩
end
end Go.Proofs.Ytnchgmemajmkjaa
namespace Go.Proofs.Ytnchgmemajmkjaa
open Go.RowKit
set_option linter.unusedVariables false
set_option linter.unusedSimpArgs false
set_option maxRecDepth 20000

/-- An operation that answers one value in any world that keeps what was there, and turns nothing. -/
theorem Obl.pure {P : Program} {ops : Array Oper} {tbl : List Cl} {a0 : Act} {w0 : World} {Q : Exit → Act → World → Prop} {i : Nat} {o : Oper} (hg : gOk ops tbl i o) (v : Value) (ht : tblAt tbl i = .val v)
    (hr : ∀ (ev : Operand → Value) (w : World), Below w0.heap.size w0 w → (∀ x, (clOf ops tbl a0 i x).holds (ev x) w) → (execOp ev o).run P w = .ok (.value v) w) : Obl P ops tbl a0 w0 Q i o :=
  Obl.mk hg fun a w hb hx K hK => by
    have h := hK v w (Below.refl _ _) (by rw [ht]; rfl)
    unfold Oper.wp
    rw [hr a.eval w hb hx]
    exact h
/-- A call that answers one value. -/
theorem Val.holds {w w' : World} {e : Ending} {c : Cl} {v : Value} (hc : c = .val v) (h : e = .returned v ∧ Below w.heap.size w w') : ∃ v, e = .returned v ∧ Below w.heap.size w w' ∧ c.holds v w' := by
  subst hc
  exact ⟨_, h.1, h.2, rfl⟩
theorem eql_strs (l r : List UInt8) (D : Bool) (h : (l == r) = D) (x y : Operand) (w : World) : (do eqGuard .eql 9 x y (.string ⟨l.toArray⟩) (.string ⟨r.toArray⟩); binOp .eql 9 (.string ⟨l.toArray⟩) (.string ⟨r.toArray⟩) : Sem Value).run Try.prog w = .ok (.bool D) w := by
  subst h
  simp [eqGuard, go_sem]
theorem neq_strs (l r : List UInt8) (D : Bool) (h : (l != r) = D) (x y : Operand) (w : World) : (do eqGuard .neq 9 x y (.string ⟨l.toArray⟩) (.string ⟨r.toArray⟩); binOp .neq 9 (.string ⟨l.toArray⟩) (.string ⟨r.toArray⟩) : Sem Value).run Try.prog w = .ok (.bool D) w := by
  subst h
  simp [eqGuard, go_sem, bne]
theorem drew_below (w : World) : Below w.heap.size w w.drew := (Below.refl _ w).drew
end Go.Proofs.Ytnchgmemajmkjaa
