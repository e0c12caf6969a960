/- A region that draws its order, by an invariant: each operation is looked at once, in whatever order they come. What an operation yields is said by a claim (a value; a slice that reads as bytes), which every later world that keeps the old memory bears out. No function of the program. A region that draws its order, by an invariant, in a frame of one's own: what holds of each world, what stays from one to the next. Operations may make and write memory. No function of the program. -/
import Derived.Test.YtfijlgkgbbemnaaMem
import Derived.Orders
import Derived.RegionTactic
namespace Go.Proofs.Ytfijlgkgbbemnaa
open Go.RowKit
set_option linter.unusedVariables false
set_option linter.unusedSimpArgs false
set_option maxRecDepth 20000

/-- What is claimed of an operation's result. -/
inductive Cl where
  | any
  | val (v : Value)
  | bytes (l : List UInt8)
def Cl.holds : Cl → Value → World → Prop
  | .any, _, _ => True
  | .val u, v, _ => v = u
  | .bytes l, v, w => ∃ A n c, v = .slice A n c ∧ R8 w w.heap.size A n c l
theorem Cl.keep {c : Cl} {v : Value} {w w' : World} (h : c.holds v w) (hb : Below w.heap.size w w') : c.holds v w' := by
  cases c with
  | any => trivial
  | val u => exact h
  | bytes l =>
    obtain ⟨A, n, c, rfl, hr⟩ := h
    exact ⟨A, n, c, rfl, hr.on hb⟩
def tblAt (tbl : List Cl) (i : Nat) : Cl := (tbl[i]?).getD .any
/-- Operation i waits for operation j. -/
def depOn (ops : Array Oper) (i j : Nat) : Bool := match ops[i]? with
  | some o => o.after.any fun e => e.on == j && Region.binds .any e
  | none => false
def dstOf (ops : Array Oper) (j : Nat) : Option Tmp := (ops[j]?).bind (·.dst)
/-- What is claimed of an operand of operation i. -/
def clOf (ops : Array Oper) (tbl : List Cl) (a0 : Act) (i : Nat) : Operand → Cl
  | .tmp t => match (List.range ops.size).find? (fun j => dstOf ops j == some t) with
    | some j => if depOn ops i j then tblAt tbl j else .any
    | none => .val (a0.tmps.getD t undef)
  | .const v => .val v
  | .global g => .val (.pointer (some ⟨g, 0, none⟩))
  | .func f => .val (.func (.func f) #[] #[])
/-- Edges lead back, and no two operations write one slot. -/
def tidy (ops : Array Oper) : Bool :=
  (List.range ops.size).all fun i => (match ops[i]? with
    | some o => o.after.all fun e => !Region.binds .any e || decide (e.on < i)
    | none => true) && (List.range i).all fun j => match dstOf ops i, dstOf ops j with
    | some a, some b => a != b
    | _, _ => true

theorem tidy_edge {ops : Array Oper} (h : tidy ops = true) {i : Nat} {o : Oper} (ho : ops[i]? = some o) {e : Edge} (he : e ∈ o.after) (hb : Region.binds .any e = true) : e.on < i := by
  have hlt : i < ops.size := (Array.getElem?_eq_some_iff.1 ho).1
  have h1 := List.all_eq_true.1 h i (List.mem_range.2 hlt)
  rw [Bool.and_eq_true, ho] at h1
  have h2 := Array.all_eq_true_iff_forall_mem.1 h1.1 e he
  simpa [hb] using h2
theorem tidy_dst {ops : Array Oper} (h : tidy ops = true) {i j : Nat} (hi : i < ops.size) (hji : j < i) {a : Tmp} (h1 : dstOf ops i = some a) (h2 : dstOf ops j = some a) : False := by
  have h3 := List.all_eq_true.1 h i (List.mem_range.2 hi)
  rw [Bool.and_eq_true] at h3
  have h4 := List.all_eq_true.1 h3.2 j (List.mem_range.2 hji)
  simp [h1, h2] at h4
theorem tidy_dst_ne {ops : Array Oper} (h : tidy ops = true) {i j : Nat} (hi : i < ops.size) (hj : j < ops.size) (hne : i ≠ j) {a : Tmp} (h1 : dstOf ops i = some a) : dstOf ops j ≠ some a := by
  intro h2
  rcases Nat.lt_or_gt_of_ne hne with h' | h'
  · exact tidy_dst h hj h' h2 h1
  · exact tidy_dst h hi h' h1 h2

/-- The invariant: what is listed is as claimed; all other slots are as they were. -/
structure RInv (ops : Array Oper) (tbl : List Cl) (a0 : Act) (w0 : World) (listed : Array Bool) (a : Act) (w : World) : Prop where
  ext : Below w0.heap.size w0 w
  size : a.tmps.size = a0.tmps.size
  defers : a.defers = a0.defers
  old : ∀ t, (∀ j, dstOf ops j ≠ some t) → a.tmps.getD t undef = a0.tmps.getD t undef
  vals : ∀ j d, dstOf ops j = some d → listed.getD j false = true → (tblAt tbl j).holds (a.tmps.getD d undef) w

variable {P : Program} {ops : Array Oper} {tbl : List Cl} {a0 : Act} {w0 : World} {Q : Exit → Act → World → Prop}

def boolOf : Value → Option Bool
  | .bool b => some b
  | _ => none
/-- What is to be shown of one operation. -/
def Obl (P : Program) (ops : Array Oper) (tbl : List Cl) (a0 : Act) (w0 : World) (Q : Exit → Act → World → Prop) (i : Nat) (o : Oper) : Prop :=
  ∀ (a : Act) (w : World), Below w0.heap.size w0 w → (∀ x, (clOf ops tbl a0 i x).holds (a.eval x) w) →
    (∀ j u, depOn ops i j = true → tblAt tbl j = .val u → (dstOf ops j).isSome = true → yielded ops a.tmps j = boolOf u) →
    ∀ K : Act → World → Prop, (∀ v w', Below w.heap.size w w' → (tblAt tbl i).holds v w' → K (a.put o.dst v) w') →
      if Region.wanted o (yielded ops a.tmps) = true then Oper.wp P o a w K Q else K (a.put o.dst undef) w

theorem getD_put_ne {a : Act} {d : Option Tmp} {v : Value} {t : Tmp} (h : d ≠ some t) : (a.put d v).tmps.getD t undef = a.tmps.getD t undef := by
  cases d with
  | none => rfl
  | some d =>
    have hne : d ≠ t := fun e => h (by rw [e])
    simp [Act.put, Array.getD_eq_getD_getElem?, Array.getElem?_setIfInBounds_ne hne]
theorem getD_put_eq {a : Act} {v : Value} {t : Tmp} (h : t < a.tmps.size) : (a.put (some t) v).tmps.getD t undef = v := by
  simp [Act.put, Array.getD_eq_getD_getElem?, h]

theorem dep_listed {i j : Nat} {o : Oper} {listed : Array Bool} (ho : ops[i]? = some o) (hd : ∀ e ∈ o.after, Region.binds .any e = true → listed.getD e.on false = true) (h : depOn ops i j = true) : listed.getD j false = true := by
  unfold depOn at h
  rw [ho] at h
  obtain ⟨e, he, h2⟩ := Array.any_eq_true'.1 h
  simp only [Bool.and_eq_true, beq_iff_eq] at h2
  rw [← h2.1]
  exact hd e he h2.2

theorem RInv.claim {listed : Array Bool} {a : Act} {w : World} (h : RInv ops tbl a0 w0 listed a w) {i : Nat} {o : Oper} (ho : ops[i]? = some o) (hd : ∀ e ∈ o.after, Region.binds .any e = true → listed.getD e.on false = true) (x : Operand) : (clOf ops tbl a0 i x).holds (a.eval x) w := by
  cases x with
  | tmp t =>
    simp only [clOf]
    cases hf : (List.range ops.size).find? (fun j => dstOf ops j == some t) with
    | none =>
      simp only
      refine h.old t fun j hj => ?_
      have h1 := List.find?_eq_none.1 hf j
      have hlt : j < ops.size := by
        rcases Nat.lt_or_ge j ops.size with h' | h'
        · exact h'
        · simp [dstOf, Array.getElem?_eq_none h'] at hj
      exact h1 (List.mem_range.2 hlt) (by simp [hj])
    | some j =>
      by_cases hdep : depOn ops i j = true
      · simp only [hdep, if_true]
        have h1 := List.find?_some hf
        exact h.vals j t (by simpa using h1) (dep_listed ho hd hdep)
      · simp only [hdep]
        trivial
  | const v => rfl
  | global g => rfl
  | func f => rfl

theorem RInv.guard {listed : Array Bool} {a : Act} {w : World} (h : RInv ops tbl a0 w0 listed a w) {i : Nat} {o : Oper} (ho : ops[i]? = some o) (hd : ∀ e ∈ o.after, Region.binds .any e = true → listed.getD e.on false = true) (j : Nat) (u : Value) (hdep : depOn ops i j = true) (ht : tblAt tbl j = .val u) (hdst : (dstOf ops j).isSome = true) : yielded ops a.tmps j = boolOf u := by
  obtain ⟨d, hj⟩ := Option.isSome_iff_exists.1 hdst
  have h1 := h.vals j d hj (dep_listed ho hd hdep)
  rw [ht] at h1
  have h2 : a.tmps.getD d undef = u := h1
  have hj' : (ops[j]?).bind (·.dst) = some d := hj
  unfold yielded
  rw [hj', Option.bind_some]
  rw [Array.getD_eq_getD_getElem?] at h2
  cases hh : a.tmps[d]? with
  | none =>
    rw [hh] at h2
    subst h2
    rfl
  | some z =>
    rw [hh] at h2
    have h3 : z = u := h2
    subst h3
    cases z <;> rfl

theorem RInv.put {listed : Array Bool} {a : Act} {w w' : World} (h : RInv ops tbl a0 w0 listed a w) {i : Nat} {o : Oper} (ht : tidy ops = true) (hls : listed.size = ops.size) (ho : ops[i]? = some o) (hin : ∀ d, o.dst = some d → d < a0.tmps.size) {v : Value}
    (hb : Below w.heap.size w w') (hv : (tblAt tbl i).holds v w') : RInv ops tbl a0 w0 (listed.setIfInBounds i true) (a.put o.dst v) w' := by
  have hi : i < ops.size := (Array.getElem?_eq_some_iff.1 ho).1
  have hdi : dstOf ops i = o.dst := by simp [dstOf, ho]
  refine ⟨h.ext.trans (hb.mono h.ext.size), ?_, ?_, fun t hold => ?_, fun j d hj hl => ?_⟩
  · cases hd : o.dst <;> simp [Act.put, h.size]
  · cases hd : o.dst <;> simp [Act.put, h.defers]
  · rw [getD_put_ne (by rw [← hdi]; exact hold i)]
    exact h.old t hold
  · by_cases hji : j = i
    · subst hji
      rw [hdi] at hj
      rw [hj, getD_put_eq (by rw [h.size]; exact hin d hj)]
      exact hv
    · have hjlt : j < ops.size := by
        rcases Nat.lt_or_ge j ops.size with h' | h'
        · exact h'
        · simp [dstOf, Array.getElem?_eq_none h'] at hj
      have hne : o.dst ≠ some d := by
        rw [← hdi]
        exact tidy_dst_ne ht hjlt hi hji hj
      rw [getD_put_ne hne]
      have hl' : listed.getD j false = true := by
        rw [Array.getD_eq_getD_getElem?, Array.getElem?_setIfInBounds_ne (fun e => hji e.symm)] at hl
        rw [Array.getD_eq_getD_getElem?]
        exact hl
      exact Cl.keep (h.vals j d hj hl') hb

/-- Nothing may come up: then all is listed. -/
theorem all_listed (ht : tidy ops = true) {listed : Array Bool} (hls : listed.size = ops.size) (hr : Region.ready .any ops listed = []) : ∀ n i, i < n → i < ops.size → listed.getD i false = true := by
  intro n
  induction n with
  | zero => intro i hi; omega
  | succ n ih =>
    intro i hi hlt
    cases hc : listed.getD i false with
    | true => rfl
    | false =>
      exfalso
      have hmem : i ∈ Region.ready .any ops listed := mem_ready.2 ⟨by
        have : i < listed.size := by omega
        rw [Array.getD_eq_getD_getElem?] at hc ⊢
        simp [this] at hc ⊢
        exact hc, ops[i], Array.getElem?_eq_getElem hlt, fun e he hb => ?_⟩
      · rw [hr] at hmem; cases hmem
      · have hlt' := tidy_edge ht (Array.getElem?_eq_getElem hlt) he hb
        exact ih e.on (by omega) (by omega)

/-- THE REGION: each operation once. -/
theorem wp_region_tbl {id : Nat} (tbl : List Cl) (hm : P.follows .mixedOrders = true) (ht : tidy ops = true) (hdst : ops.all (fun o => match o.dst with | some d => decide (d < a0.tmps.size) | none => true) = true)
    (hO : ∀ i o, ops[i]? = some o → Obl P ops tbl a0 w0.drew Q i o)
    (hQ : ∀ a w, Below w0.drew.heap.size w0.drew w → a.tmps.size = a0.tmps.size → a.defers = a0.defers → (∀ t, (∀ j, dstOf ops j ≠ some t) → a.tmps.getD t undef = a0.tmps.getD t undef) →
      (∀ j d, dstOf ops j = some d → (tblAt tbl j).holds (a.tmps.getD d undef) w) → Q .normal a w) :
    (Code.region id ops true).wp P Q a0 w0 := by
  refine wp_region_any hm ?_
  have key : ∀ (fuel : Nat) (listed : Array Bool) (a : Act) (w : World), listed.size = ops.size → (listed.toList.countP (fun b => !b)) ≤ fuel → RInv ops tbl a0 w0.drew listed a w → wpAny P .any ops Q fuel listed a w := by
    have done : ∀ (listed : Array Bool) (a : Act) (w : World), listed.size = ops.size → RInv ops tbl a0 w0.drew listed a w → Region.ready .any ops listed = [] → Q .normal a w := by
      intro listed a w hls h hr
      refine hQ a w h.ext h.size h.defers h.old fun j d hj => h.vals j d hj ?_
      have hjlt : j < ops.size := by
        rcases Nat.lt_or_ge j ops.size with h' | h'
        · exact h'
        · simp [dstOf, Array.getElem?_eq_none h'] at hj
      exact all_listed ht hls hr (j + 1) j (by omega) hjlt
    intro fuel
    induction fuel with
    | zero =>
      intro listed a w hls hc h
      have hr : Region.ready .any ops listed = [] := by
        apply List.eq_nil_iff_forall_not_mem.2
        intro i hi
        obtain ⟨h1, o, ho, _⟩ := mem_ready.1 hi
        have hlt : i < listed.size := by rw [hls]; exact (Array.getElem?_eq_some_iff.1 ho).1
        have h0 : listed.toList.countP (fun b => !b) = 0 := by omega
        rw [List.countP_eq_zero] at h0
        have h2 := h0 (listed[i]) (by simp)
        rw [Array.getD_eq_getD_getElem?] at h1
        simp [hlt] at h1
        simp [h1] at h2
      exact ⟨hr, done listed a w hls h hr⟩
    | succ fuel ih =>
      intro listed a w hls hc h
      refine ⟨fun hr => done listed a w hls h hr, fun i hi => ?_⟩
      obtain ⟨h1, o, ho, hd⟩ := mem_ready.1 hi
      have hlt : i < listed.size := by rw [hls]; exact (Array.getElem?_eq_some_iff.1 ho).1
      have hfalse : listed[i] = false := by
        rw [Array.getD_eq_getD_getElem?] at h1
        simpa [hlt] using h1
      have hcount : (listed.setIfInBounds i true).toList.countP (fun b => !b) ≤ fuel := by
        rw [Array.toList_setIfInBounds, List.countP_set (h := by simpa using hlt)]
        rw [show listed.toList[i]'(by simpa using hlt) = false by simpa using hfalse]
        simp only [Bool.not_false, Bool.not_true, if_true, Bool.false_eq_true, if_false]
        omega
      have hin : ∀ d, o.dst = some d → d < a0.tmps.size := by
        intro d hdd
        have := Array.all_eq_true_iff_forall_mem.1 hdst o (Array.mem_of_getElem? ho)
        simpa [hdd] using this
      refine wpOp_step ho fun K hK => ?_
      refine hO i o ho a w h.ext (fun x => h.claim ho hd x) (fun j b hdep hj hs => h.guard ho hd j b hdep hj hs) K (fun v w' hb hv => hK _ _ (ih _ _ _ (by simp [hls]) hcount (h.put ht hls ho hin hb hv)))
  exact key ops.size _ a0 _ (by simp) (by have := List.countP_le_length (p := fun b => !b) (l := List.replicate ops.size false); simpa using this) ⟨Below.refl _ _, rfl, rfl, fun _ _ => rfl, fun j d hj hl => by
    rw [Array.getD_eq_getD_getElem?] at hl
    by_cases hjl : j < ops.size
    · simp [hjl] at hl
    · simp [hjl] at hl⟩
/-! ### The obligations, by kind of operation -/
/-- The operation is wanted: no guard, or a guard whose claim is the one wished. -/
def gOk (ops : Array Oper) (tbl : List Cl) (i : Nat) (o : Oper) : Prop := match o.guard with
  | none => True
  | some (j, b) => depOn ops i j = true ∧ tblAt tbl j = .val (.bool b) ∧ (dstOf ops j).isSome = true
theorem Obl.mk {i : Nat} {o : Oper} (hg : gOk ops tbl i o)
    (h : ∀ (a : Act) (w : World), Below w0.heap.size w0 w → (∀ x, (clOf ops tbl a0 i x).holds (a.eval x) w) →
      ∀ K : Act → World → Prop, (∀ v w', Below w.heap.size w w' → (tblAt tbl i).holds v w' → K (a.put o.dst v) w') → Oper.wp P o a w K Q) : Obl P ops tbl a0 w0 Q i o := by
  intro a w hb hx hy K hK
  have hw : Region.wanted o (yielded ops a.tmps) = true := by
    unfold gOk at hg
    unfold Region.wanted
    split
    · rfl
    · rename_i j b hgd
      rw [hgd] at hg
      rw [hy j _ hg.1 hg.2.1 hg.2.2]
      simp [boolOf]
  rw [if_pos hw]
  exact h a w hb hx K hK
theorem Obl.skip {i : Nat} {o : Oper} (j : Nat) (b : Bool) (u : Value) (hg : o.guard = some (j, b)) (h1 : depOn ops i j = true) (h2 : tblAt tbl j = .val u) (hu : (boolOf u == some b) = false) (h3 : (dstOf ops j).isSome = true)
    (ht' : ∀ w, (tblAt tbl i).holds undef w) : Obl P ops tbl a0 w0 Q i o := by
  intro a w hb hx hy K hK
  have hw : Region.wanted o (yielded ops a.tmps) = false := by
    unfold Region.wanted
    rw [hg]
    simp only
    rw [hy j u h1 h2 h3]
    exact hu
  rw [hw]
  exact hK _ _ (Below.refl _ _) (ht' w)
theorem Obl.move {i : Nat} {o : Oper} (hg : gOk ops tbl i o) (x : Operand) (ho : o.op = .move x ∨ o.op = .assign x) (ht : tblAt tbl i = clOf ops tbl a0 i x) : Obl P ops tbl a0 w0 Q i o :=
  Obl.mk hg fun a w hb hx K hK => by
    have h := hK (a.eval x) w (Below.refl _ _) (by rw [ht]; exact hx x)
    rcases ho with ho | ho <;> (unfold Oper.wp execOp; rw [ho]; exact h)
theorem Obl.pick {i : Nat} {o : Oper} (hg : gOk ops tbl i o) (c x y : Operand) (ho : o.op = .pick c x y) (b : Bool) (hc : clOf ops tbl a0 i c = .val (.bool b)) (ht : tblAt tbl i = clOf ops tbl a0 i (if b then x else y)) : Obl P ops tbl a0 w0 Q i o :=
  Obl.mk hg fun a w hb hx K hK => by
    have h1 := hx c
    rw [hc] at h1
    have h2 : a.eval c = .bool b := h1
    have h := hK (a.eval (if b then x else y)) w (Below.refl _ _) (by rw [ht]; exact hx _)
    unfold Oper.wp execOp
    rw [ho]
    simp only [h2]
    cases b <;> exact h
/-- An operation on two values that are claimed. -/
theorem Obl.bin {i : Nat} {o : Oper} (hg : gOk ops tbl i o) (op : BinOp) (ty : TypeId) (x y : Operand) (ty' : TypeId) (ho : o.op = .binOp op ty x y ty') (vx vy v : Value)
    (h1 : clOf ops tbl a0 i x = .val vx) (h2 : clOf ops tbl a0 i y = .val vy) (hr : ∀ w, (do eqGuard op ty x y vx vy; binOp op ty vx vy : Sem Value).run P w = .ok v w) (ht : tblAt tbl i = .val v) : Obl P ops tbl a0 w0 Q i o :=
  Obl.mk hg fun a w hb hx K hK => by
    have e1 := hx x
    have e2 := hx y
    rw [h1] at e1
    rw [h2] at e2
    have e1' : a.eval x = vx := e1
    have e2' : a.eval y = vy := e2
    have h := hK v w (Below.refl _ _) (by rw [ht]; rfl)
    have hrun : (execOp a.eval o).run P w = .ok (.value v) w := by
      have := hr w
      simp only [execOp, ho, e1', e2', Sem.run_bind] at this ⊢
      rw [this]
      rfl
    unfold Oper.wp
    rw [hrun]
    exact h
theorem Obl.un {i : Nat} {o : Oper} (hg : gOk ops tbl i o) (op : UnOp) (ty : TypeId) (x : Operand) (ho : o.op = .unOp op ty x) (vx v : Value)
    (h1 : clOf ops tbl a0 i x = .val vx) (hr : ∀ w, (Op.unary op vx).run P w = .ok v w) (ht : tblAt tbl i = .val v) : Obl P ops tbl a0 w0 Q i o :=
  Obl.mk hg fun a w hb hx K hK => by
    have e1 := hx x
    rw [h1] at e1
    have e1' : a.eval x = vx := e1
    have h := hK v w (Below.refl _ _) (by rw [ht]; rfl)
    have hrun : (execOp a.eval o).run P w = .ok (.value v) w := by
      simp only [execOp, ho, e1', Sem.run_bind, hr w]
      rfl
    unfold Oper.wp
    rw [hrun]
    exact h
theorem holds_val {c : Cl} {u v : Value} {w : World} (h : c.holds v w) (e : c = .val u) : v = u := by subst e; exact h
theorem holds_undef {c : Cl} {w : World} (e : c = .val undef) : c.holds undef w := by subst e; rfl
/-- A conversion of a value that is claimed. -/
theorem Obl.conv {i : Nat} {o : Oper} (hg : gOk ops tbl i o) (src dst : TypeId) (x : Operand) (ho : o.op = .convert src dst x) (vx v : Value)
    (h1 : clOf ops tbl a0 i x = .val vx) (hr : ∀ w, (convert src dst vx).run P w = .ok v w) (ht : tblAt tbl i = .val v) : Obl P ops tbl a0 w0 Q i o :=
  Obl.mk hg fun a w hb hx K hK => by
    have e1 : a.eval x = vx := holds_val (hx x) h1
    have h := hK v w (Below.refl _ _) (by rw [ht]; rfl)
    have hrun : (execOp a.eval o).run P w = .ok (.value v) w := by
      simp only [execOp, ho, e1, Sem.run_bind, hr w]
      rfl
    unfold Oper.wp
    rw [hrun]
    exact h
/-- A builtin of two values that are claimed. -/
theorem Obl.bi2 {i : Nat} {o : Oper} (hg : gOk ops tbl i o) (b : Builtin) (x y : Operand) (tys : Array TypeId) (ho : o.op = .call { callee := .builtin b, args := #[x, y], argTypes := tys }) (vx vy v : Value)
    (h1 : clOf ops tbl a0 i x = .val vx) (h2 : clOf ops tbl a0 i y = .val vy) (hr : ∀ w cs, (builtin b tys o.type cs #[vx, vy]).run P w = .ok (.value v) w) (ht : tblAt tbl i = .val v) : Obl P ops tbl a0 w0 Q i o :=
  Obl.mk hg fun a w hb hx K hK => by
    have e1 : a.eval x = vx := holds_val (hx x) h1
    have e2 : a.eval y = vy := holds_val (hx y) h2
    have h := hK v w (Below.refl _ _) (by rw [ht]; rfl)
    have hrun : (execOp a.eval o).run P w = .ok (.value v) w := by
      simp only [execOp, ho, resolve, List.map_toArray, List.map_cons, List.map_nil, e1, e2, Sem.run_bind, Sem.run_pure, Result.andThen_ok, invoke]
      exact hr w _
    unfold Oper.wp
    rw [hrun]
    exact h
/-- x[:hi] of values that are claimed. -/
theorem Obl.cutH {i : Nat} {o : Oper} (hg : gOk ops tbl i o) (t : TypeId) (x y : Operand) (ho : o.op = .slice t x none (some y) none) (vx vy v : Value)
    (h1 : clOf ops tbl a0 i x = .val vx) (h2 : clOf ops tbl a0 i y = .val vy) (hr : ∀ w, (Instr.sliceAt t vx none (some vy) none).run P w = .ok v w) (ht : tblAt tbl i = .val v) : Obl P ops tbl a0 w0 Q i o :=
  Obl.mk hg fun a w hb hx K hK => by
    have e1 : a.eval x = vx := holds_val (hx x) h1
    have e2 : a.eval y = vy := holds_val (hx y) h2
    have h := hK v w (Below.refl _ _) (by rw [ht]; rfl)
    have hrun : (execOp a.eval o).run P w = .ok (.value v) w := by
      simp only [execOp, ho, e1, e2, Option.map_some, Option.map_none, Sem.run_bind, hr w]
      rfl
    unfold Oper.wp
    rw [hrun]
    exact h
/-- string(p) of a slice that reads as bytes. -/
theorem Obl.str {i : Nat} {o : Oper} (hg : gOk ops tbl i o) (src e dst : TypeId) (x : Operand) (ho : o.op = .convert src dst x) (hs : P.underlying src = some (.slice e)) (he : P.underlying e = some (.int .u8)) (hd : P.underlying dst = some .string)
    (l : List UInt8) (h1 : clOf ops tbl a0 i x = .bytes l ∨ ∃ A n c, clOf ops tbl a0 i x = .val (.slice A n c) ∧ R8 w0 w0.heap.size A n c l) (ht : tblAt tbl i = .val (.string ⟨l.toArray⟩)) : Obl P ops tbl a0 w0 Q i o :=
  Obl.mk hg fun a w hb hx K hK => by
    have h := hK (.string ⟨l.toArray⟩) w (Below.refl _ _) (by rw [ht]; rfl)
    have hrd : ∃ A n c, a.eval x = .slice A n c ∧ R8 w w.heap.size A n c l := by
      have e1 := hx x
      rcases h1 with h1 | ⟨A, n, c, h1, hr⟩
      · rw [h1] at e1
        exact e1
      · rw [h1] at e1
        exact ⟨A, n, c, e1, hr.on hb⟩
    obtain ⟨A, n, c, e1, hr⟩ := hrd
    have hrun : (execOp a.eval o).run P w = .ok (.value (.string ⟨l.toArray⟩)) w := by
      simp only [execOp, ho, e1, Sem.run_bind, hr.string src e dst hs he hd]
      rfl
    unfold Oper.wp
    rw [hrun]
    exact h
/-- A call of a Go function, by its contract. -/
theorem Obl.call {i : Nat} {o : Oper} (hg : gOk ops tbl i o) (f : FuncId) (args : Array Operand) (tys : Array TypeId) (ho : o.op = .call { callee := .value (.func f), args := args, argTypes := tys })
    (fn : Func) (hf : P.funcs[f]? = some fn) (hname : (fn.name == "runtime.NumGoroutine") = false) (hbody : fn.body.isSome = true)
    (hc : ∀ (ev : Operand → Value) (w : World), Below w0.heap.size w0 w → (∀ x, (clOf ops tbl a0 i x).holds (ev x) w) → Calls P f (args.map ev) w fun e w' => ∃ v, e = .returned v ∧ Below w.heap.size w w' ∧ (tblAt tbl i).holds v w') : Obl P ops tbl a0 w0 Q i o :=
  Obl.mk hg fun a w hb hx K hK => by
    obtain ⟨c, hc'⟩ := Option.isSome_iff_exists.1 hbody
    have h1 : fn.name ≠ "runtime.NumGoroutine" := by simpa using hname
    have hrun : (execOp a.eval o).run P w = .ok (.enter f (args.map a.eval)) w := by
      simp [execOp, ho, resolve, Act.eval, Deferred.ofValue, invoke, callFunc, hf, h1, hc']
    unfold Oper.wp
    rw [hrun]
    exact (hc a.eval w hb hx).mono fun e w' ⟨v, he, hb', hv⟩ => by subst he; exact hK v w' hb' hv
theorem holds_bytes {c : Cl} {l : List UInt8} {v : Value} {w : World} (h : c.holds v w) (e : c = .bytes l) : ∃ A n k, v = .slice A n k ∧ R8 w w.heap.size A n k l := by subst e; exact h
theorem Yes.holds {w w' : World} {e : Ending} {c : Cl} (hc : c = .val (.bool true)) (h : Yes w e w') : ∃ v, e = .returned v ∧ Below w.heap.size w w' ∧ c.holds v w' := by
  subst hc
  exact ⟨_, h.1, h.2, rfl⟩
/-- len of a slice. -/
theorem Obl.lenV {i : Nat} {o : Oper} {x : Operand} (hg : gOk ops tbl i o) (ty e : TypeId) (hu : P.underlying ty = some (.slice e)) (ho : o.op = .call { callee := .builtin .len, args := #[x], argTypes := #[ty] }) (A : Option Addr) (n c : Nat)
    (h1 : clOf ops tbl a0 i x = .val (.slice A n c)) (ht : tblAt tbl i = .val (.int .i64 (n : Int))) : Obl P ops tbl a0 w0 Q i o :=
  Obl.mk hg fun a w hb hx K hK => by
    have e1 : a.eval x = .slice A n c := holds_val (hx x) h1
    have h := hK (.int .i64 (n : Int)) w (Below.refl _ _) (by rw [ht]; rfl)
    have hrun : (execOp a.eval o).run P w = .ok (.value (.int .i64 (n : Int))) w := by
      simp [execOp, ho, resolve, invoke, builtin, e1, Builtin.len_, goInt, run_underlying hu]
    unfold Oper.wp
    rw [hrun]
    exact h
theorem Obl.lenB {i : Nat} {o : Oper} {x : Operand} (hg : gOk ops tbl i o) (ty e : TypeId) (hu : P.underlying ty = some (.slice e)) (ho : o.op = .call { callee := .builtin .len, args := #[x], argTypes := #[ty] }) (l : List UInt8)
    (h1 : clOf ops tbl a0 i x = .bytes l) (ht : tblAt tbl i = .val (.int .i64 (l.length : Int))) : Obl P ops tbl a0 w0 Q i o :=
  Obl.mk hg fun a w hb hx K hK => by
    obtain ⟨A, n, c, e1, hr⟩ := holds_bytes (hx x) h1
    have h := hK (.int .i64 (n : Int)) w (Below.refl _ _) (by rw [ht, ← hr.1]; rfl)
    have hrun : (execOp a.eval o).run P w = .ok (.value (.int .i64 (n : Int))) w := by
      simp [execOp, ho, resolve, invoke, builtin, e1, Builtin.len_, goInt, run_underlying hu]
    unfold Oper.wp
    rw [hrun]
    exact h
/-- len of a string. -/
theorem Obl.lenS {i : Nat} {o : Oper} {x : Operand} (hg : gOk ops tbl i o) (ty : TypeId) (hu : P.underlying ty = some .string) (ho : o.op = .call { callee := .builtin .len, args := #[x], argTypes := #[ty] }) (s : ByteArray)
    (h1 : clOf ops tbl a0 i x = .val (.string s)) (ht : tblAt tbl i = .val (.int .i64 (s.size : Int))) : Obl P ops tbl a0 w0 Q i o :=
  Obl.mk hg fun a w hb hx K hK => by
    have e1 : a.eval x = .string s := holds_val (hx x) h1
    have h := hK (.int .i64 (s.size : Int)) w (Below.refl _ _) (by rw [ht]; rfl)
    have hrun : (execOp a.eval o).run P w = .ok (.value (.int .i64 (s.size : Int))) w := by
      simp [execOp, ho, resolve, invoke, builtin, e1, Builtin.len_, goInt, run_underlying hu]
    unfold Oper.wp
    rw [hrun]
    exact h
/-- x[lo:] of values that are claimed. -/
theorem Obl.cutLo {i : Nat} {o : Oper} (hg : gOk ops tbl i o) (t : TypeId) (x y : Operand) (ho : o.op = .slice t x (some y) none none) (vx vy v : Value)
    (h1 : clOf ops tbl a0 i x = .val vx) (h2 : clOf ops tbl a0 i y = .val vy) (hr : ∀ w, (Instr.sliceAt t vx (some vy) none none).run P w = .ok v w) (ht : tblAt tbl i = .val v) : Obl P ops tbl a0 w0 Q i o :=
  Obl.mk hg fun a w hb hx K hK => by
    have e1 : a.eval x = vx := holds_val (hx x) h1
    have e2 : a.eval y = vy := holds_val (hx y) h2
    have h := hK v w (Below.refl _ _) (by rw [ht]; rfl)
    have hrun : (execOp a.eval o).run P w = .ok (.value v) w := by
      simp only [execOp, ho, e1, e2, Option.map_some, Option.map_none, Sem.run_bind, hr w]
      rfl
    unfold Oper.wp
    rw [hrun]
    exact h
/-- .. whose answer is a slice of bytes. -/
theorem Out8.holds {w w' : World} {l : List UInt8} {e : Ending} {c : Cl} (hc : c = .bytes l) (h : Out8 w l e w') : ∃ v, e = .returned v ∧ Below w.heap.size w w' ∧ c.holds v w' := by
  obtain ⟨A, m, k, he, hr, hb⟩ := h
  subst hc
  exact ⟨_, he, hb, A, m, k, rfl, hr⟩
/-- Two strings that are one. -/
theorem eql_str (b : ByteArray) (x y : Operand) (w : World) : (do eqGuard .eql 9 x y (.string b) (.string b); binOp .eql 9 (.string b) (.string b) : Sem Value).run Try.prog w = .ok (.bool true) w := by
  simp [eqGuard, go_sem]
/-- The obligations of a row of operations, from number i on. -/
def AllObl (P : Program) (ops : Array Oper) (tbl : List Cl) (a0 : Act) (w0 : World) (Q : Exit → Act → World → Prop) : Nat → List Oper → Prop
  | _, [] => True
  | i, o :: r => Obl P ops tbl a0 w0 Q i o ∧ AllObl P ops tbl a0 w0 Q (i + 1) r
theorem AllObl.at_ : ∀ (l : List Oper) (k : Nat), AllObl P ops tbl a0 w0 Q k l → ∀ i o, l[i]? = some o → Obl P ops tbl a0 w0 Q (k + i) o
  | [], _, _, i, o, h => by simp at h
  | x :: r, k, hA, 0, o, h => by
    simp at h
    subst h
    exact hA.1
  | x :: r, k, hA, i + 1, o, h => by
    have := AllObl.at_ r (k + 1) hA.2 i o (by simpa using h)
    rwa [Nat.add_assoc, Nat.add_comm 1 i] at this
theorem AllObl.all (h : AllObl P ops tbl a0 w0 Q 0 ops.toList) : ∀ i o, ops[i]? = some o → Obl P ops tbl a0 w0 Q i o := by
  intro i o ho
  have := AllObl.at_ ops.toList 0 h i o (by simpa using ho)
  rwa [Nat.zero_add] at this
end Go.Proofs.Ytfijlgkgbbemnaa
namespace Go.Proofs.Ytfijlgkgbbemnaa
open Go.RowKit
set_option linter.unusedVariables false
set_option linter.unusedSimpArgs false
set_option maxRecDepth 20000

/-- What holds of every world of the region; what stays. -/
structure Frame where
  I : World → Prop
  Fr : World → World → Prop
  refl : ∀ w, I w → Fr w w
  trans : ∀ a b c, Fr a b → Fr b c → Fr a c
  drew : ∀ w, I w → I w.drew ∧ Fr w w.drew
/-- What is claimed of an operation's result (and of the world, from then on). -/
inductive ClF (F : Frame) where
  | any
  | val (v : Value)
  | pred (p : Value → World → Prop) (st : ∀ v a b, F.I a → F.Fr a b → F.I b → p v a → p v b)
variable {F : Frame}
def ClF.holds : ClF F → Value → World → Prop
  | .any, _, _ => True
  | .val u, v, _ => v = u
  | .pred p _, v, w => p v w
theorem ClF.keep {c : ClF F} {v : Value} {a b : World} (h : c.holds v a) (ha : F.I a) (hf : F.Fr a b) (hb : F.I b) : c.holds v b := by
  cases c with
  | any => trivial
  | val u => exact h
  | pred p st => exact st v a b ha hf hb h
def tblF (tbl : List (ClF F)) (i : Nat) : ClF F := (tbl[i]?).getD .any
def clOfF (ops : Array Oper) (tbl : List (ClF F)) (a0 : Act) (i : Nat) : Operand → ClF F
  | .tmp t => match (List.range ops.size).find? (fun j => dstOf ops j == some t) with
    | some j => if depOn ops i j then tblF tbl j else if depOn ops j i then .val (a0.tmps.getD t undef) else .any
    | none => .val (a0.tmps.getD t undef)
  | .const v => .val v
  | .global g => .val (.pointer (some ⟨g, 0, none⟩))
  | .func f => .val (.func (.func f) #[] #[])
/-- The slot's value, or what the operation without a slot leaves. -/
def outOf (ops : Array Oper) (a : Act) (j : Nat) : Value := match dstOf ops j with
  | some d => a.tmps.getD d undef
  | none => undef
structure RInvF (ops : Array Oper) (tbl : List (ClF F)) (a0 : Act) (w0 : World) (listed : Array Bool) (a : Act) (w : World) : Prop where
  inv : F.I w
  ext : F.Fr w0 w
  size : a.tmps.size = a0.tmps.size
  defers : a.defers = a0.defers
  old : ∀ t, (∀ j, dstOf ops j ≠ some t) → a.tmps.getD t undef = a0.tmps.getD t undef
  vals : ∀ j, j < ops.size → listed.getD j false = true → (tblF tbl j).holds (outOf ops a j) w
  young : ∀ i j t, dstOf ops j = some t → depOn ops j i = true → listed.getD i true = false → a.tmps.getD t undef = a0.tmps.getD t undef

variable {P : Program} {ops : Array Oper} {tbl : List (ClF F)} {a0 : Act} {w0 : World} {Q : Exit → Act → World → Prop}
/-- What is to be shown of one operation. -/
def OblF (P : Program) (ops : Array Oper) (tbl : List (ClF F)) (a0 : Act) (w0 : World) (Q : Exit → Act → World → Prop) (i : Nat) (o : Oper) : Prop :=
  ∀ (a : Act) (w : World), F.I w → F.Fr w0 w → (∀ x, (clOfF ops tbl a0 i x).holds (a.eval x) w) → (∀ j, j < ops.size → depOn ops i j = true → (tblF tbl j).holds (outOf ops a j) w) →
    (∀ j u, depOn ops i j = true → tblF tbl j = .val u → (dstOf ops j).isSome = true → yielded ops a.tmps j = boolOf u) →
    ∀ K : Act → World → Prop, (∀ v w', F.I w' → F.Fr w w' → (tblF tbl i).holds (if o.dst.isSome then v else undef) w' → K (a.put o.dst v) w') →
      if Region.wanted o (yielded ops a.tmps) = true then Oper.wp P o a w K Q else K (a.put o.dst undef) w

theorem RInvF.claim {listed : Array Bool} {a : Act} {w : World} (h : RInvF ops tbl a0 w0 listed a w) {i : Nat} {o : Oper} (ho : ops[i]? = some o) (hd : ∀ e ∈ o.after, Region.binds .any e = true → listed.getD e.on false = true) (hni : listed.getD i true = false) (x : Operand) : (clOfF ops tbl a0 i x).holds (a.eval x) w := by
  cases x with
  | tmp t =>
    simp only [clOfF]
    cases hf : (List.range ops.size).find? (fun j => dstOf ops j == some t) with
    | none =>
      simp only
      refine h.old t fun j hj => ?_
      have h1 := List.find?_eq_none.1 hf j
      have hlt : j < ops.size := by
        rcases Nat.lt_or_ge j ops.size with h' | h'
        · exact h'
        · simp [dstOf, Array.getElem?_eq_none h'] at hj
      exact h1 (List.mem_range.2 hlt) (by simp [hj])
    | some j =>
      by_cases hdep : depOn ops i j = true
      · simp only [hdep, if_true]
        have h1 := List.find?_some hf
        have h2 := List.mem_range.1 (List.mem_of_find?_eq_some hf)
        have h3 := h.vals j h2 (dep_listed ho hd hdep)
        have h4 : dstOf ops j = some t := by simpa using h1
        unfold outOf at h3
        rw [h4] at h3
        exact h3
      · by_cases hdj : depOn ops j i = true
        · simp only [hdep, hdj, if_true]
          have h1 := List.find?_some hf
          exact h.young i j t (by simpa using h1) hdj hni
        · simp only [hdep, hdj]
          trivial
  | const v => rfl
  | global g => rfl
  | func f => rfl
theorem RInvF.guard {listed : Array Bool} {a : Act} {w : World} (h : RInvF ops tbl a0 w0 listed a w) {i : Nat} {o : Oper} (ho : ops[i]? = some o) (hd : ∀ e ∈ o.after, Region.binds .any e = true → listed.getD e.on false = true) (j : Nat) (u : Value) (hdep : depOn ops i j = true) (ht : tblF tbl j = .val u) (hdst : (dstOf ops j).isSome = true) : yielded ops a.tmps j = boolOf u := by
  obtain ⟨d, hj⟩ := Option.isSome_iff_exists.1 hdst
  have hjlt : j < ops.size := by
    rcases Nat.lt_or_ge j ops.size with h' | h'
    · exact h'
    · simp [dstOf, Array.getElem?_eq_none h'] at hj
  have h1 := h.vals j hjlt (dep_listed ho hd hdep)
  rw [ht] at h1
  unfold outOf at h1
  rw [hj] at h1
  have h2 : a.tmps.getD d undef = u := h1
  have hj' : (ops[j]?).bind (·.dst) = some d := hj
  unfold yielded
  rw [hj', Option.bind_some]
  rw [Array.getD_eq_getD_getElem?] at h2
  cases hh : a.tmps[d]? with
  | none =>
    rw [hh] at h2
    subst h2
    rfl
  | some z =>
    rw [hh] at h2
    have h3 : z = u := h2
    subst h3
    cases z <;> rfl
theorem RInvF.put {listed : Array Bool} {a : Act} {w w' : World} (h : RInvF ops tbl a0 w0 listed a w) {i : Nat} {o : Oper} (ht : tidy ops = true) (hls : listed.size = ops.size) (ho : ops[i]? = some o) (hd : ∀ e ∈ o.after, Region.binds .any e = true → listed.getD e.on false = true) (hin : ∀ d, o.dst = some d → d < a0.tmps.size) {v : Value}
    (hI : F.I w') (hb : F.Fr w w') (hv : (tblF tbl i).holds (if o.dst.isSome then v else undef) w') : RInvF ops tbl a0 w0 (listed.setIfInBounds i true) (a.put o.dst v) w' := by
  have hi : i < ops.size := (Array.getElem?_eq_some_iff.1 ho).1
  have hdi : dstOf ops i = o.dst := by simp [dstOf, ho]
  refine ⟨hI, F.trans _ _ _ h.ext hb, ?_, ?_, fun t hold => ?_, fun j hj hl => ?_, fun i' j t hj hdep hni => ?_⟩
  · cases hd : o.dst <;> simp [Act.put, h.size]
  · cases hd : o.dst <;> simp [Act.put, h.defers]
  · rw [getD_put_ne (by rw [← hdi]; exact hold i)]
    exact h.old t hold
  · by_cases hji : j = i
    · subst hji
      unfold outOf
      rw [hdi]
      cases hd : o.dst with
      | none =>
        rw [hd] at hv
        exact hv
      | some d =>
        rw [hd] at hv
        simp only
        rw [getD_put_eq (by rw [h.size]; exact hin d hd)]
        exact hv
    · have hl' : listed.getD j false = true := by
        rw [Array.getD_eq_getD_getElem?, Array.getElem?_setIfInBounds_ne (fun e => hji e.symm)] at hl
        rw [Array.getD_eq_getD_getElem?]
        exact hl
      have hk := ClF.keep (h.vals j hj hl') h.inv hb hI
      have e : outOf ops (a.put o.dst v) j = outOf ops a j := by
        unfold outOf
        cases hdj : dstOf ops j with
        | none => rfl
        | some d =>
          simp only
          have hne : o.dst ≠ some d := by
            rw [← hdi]
            exact tidy_dst_ne ht hj hi hji hdj
          exact getD_put_ne hne
      rw [e]
      exact hk
  · have hii : i' ≠ i := fun e => by
      subst e
      rw [Array.getD_eq_getD_getElem?, Array.getElem?_setIfInBounds_self] at hni
      simp [hls, hi] at hni
    have hni' : listed.getD i' true = false := by
      rw [Array.getD_eq_getD_getElem?, Array.getElem?_setIfInBounds_ne (fun e => hii e.symm)] at hni
      rw [Array.getD_eq_getD_getElem?]
      exact hni
    have hji : j ≠ i := fun e => by
      subst e
      have := dep_listed ho hd hdep
      rw [Array.getD_eq_getD_getElem?] at this hni'
      cases hq : listed[i']? <;> simp [hq] at this hni'
      rw [this] at hni'
      exact absurd hni' (by decide)
    have hjlt : j < ops.size := by
      rcases Nat.lt_or_ge j ops.size with h' | h'
      · exact h'
      · simp [dstOf, Array.getElem?_eq_none h'] at hj
    have hne : o.dst ≠ some t := by
      rw [← hdi]
      exact tidy_dst_ne ht hjlt hi hji hj
    rw [getD_put_ne hne]
    exact h.young i' j t hj hdep hni'
/-- THE REGION: each operation once. -/
theorem wp_region_f {id : Nat} (tbl : List (ClF F)) (hm : P.follows .mixedOrders = true) (ht : tidy ops = true) (hdst : ops.all (fun o => match o.dst with | some d => decide (d < a0.tmps.size) | none => true) = true) (hI : F.I w0)
    (hO : ∀ i o, ops[i]? = some o → OblF P ops tbl a0 w0.drew Q i o)
    (hQ : ∀ a w, F.I w → F.Fr w0.drew w → a.tmps.size = a0.tmps.size → a.defers = a0.defers → (∀ t, (∀ j, dstOf ops j ≠ some t) → a.tmps.getD t undef = a0.tmps.getD t undef) →
      (∀ j, j < ops.size → (tblF tbl j).holds (outOf ops a j) w) → Q .normal a w) :
    (Code.region id ops true).wp P Q a0 w0 := by
  refine wp_region_any hm ?_
  have key : ∀ (fuel : Nat) (listed : Array Bool) (a : Act) (w : World), listed.size = ops.size → (listed.toList.countP (fun b => !b)) ≤ fuel → RInvF ops tbl a0 w0.drew listed a w → wpAny P .any ops Q fuel listed a w := by
    have done : ∀ (listed : Array Bool) (a : Act) (w : World), listed.size = ops.size → RInvF ops tbl a0 w0.drew listed a w → Region.ready .any ops listed = [] → Q .normal a w := by
      intro listed a w hls h hr
      exact hQ a w h.inv h.ext h.size h.defers h.old fun j hjlt => h.vals j hjlt (all_listed ht hls hr (j + 1) j (by omega) hjlt)
    intro fuel
    induction fuel with
    | zero =>
      intro listed a w hls hc h
      have hr : Region.ready .any ops listed = [] := by
        apply List.eq_nil_iff_forall_not_mem.2
        intro i hi
        obtain ⟨h1, o, ho, _⟩ := mem_ready.1 hi
        have hlt : i < listed.size := by rw [hls]; exact (Array.getElem?_eq_some_iff.1 ho).1
        have h0 : listed.toList.countP (fun b => !b) = 0 := by omega
        rw [List.countP_eq_zero] at h0
        have h2 := h0 (listed[i]) (by simp)
        rw [Array.getD_eq_getD_getElem?] at h1
        simp [hlt] at h1
        simp [h1] at h2
      exact ⟨hr, done listed a w hls h hr⟩
    | succ fuel ih =>
      intro listed a w hls hc h
      refine ⟨fun hr => done listed a w hls h hr, fun i hi => ?_⟩
      obtain ⟨h1, o, ho, hd⟩ := mem_ready.1 hi
      have hlt : i < listed.size := by rw [hls]; exact (Array.getElem?_eq_some_iff.1 ho).1
      have hfalse : listed[i] = false := by
        rw [Array.getD_eq_getD_getElem?] at h1
        simpa [hlt] using h1
      have hcount : (listed.setIfInBounds i true).toList.countP (fun b => !b) ≤ fuel := by
        rw [Array.toList_setIfInBounds, List.countP_set (h := by simpa using hlt)]
        rw [show listed.toList[i]'(by simpa using hlt) = false by simpa using hfalse]
        simp only [Bool.not_false, Bool.not_true, if_true, Bool.false_eq_true, if_false]
        omega
      have hin : ∀ d, o.dst = some d → d < a0.tmps.size := by
        intro d hdd
        have := Array.all_eq_true_iff_forall_mem.1 hdst o (Array.mem_of_getElem? ho)
        simpa [hdd] using this
      refine wpOp_step ho fun K hK => ?_
      refine hO i o ho a w h.inv h.ext (fun x => h.claim ho hd h1 x) (fun j hj hdep => h.vals j hj (dep_listed ho hd hdep)) (fun j b hdep hj hs => h.guard ho hd j b hdep hj hs) K (fun v w' hI' hb hv => hK _ _ (ih _ _ _ (by simp [hls]) hcount (h.put ht hls ho hd hin hI' hb hv)))
  have hd := F.drew w0 hI
  exact key ops.size _ a0 _ (by simp) (by have := List.countP_le_length (p := fun b => !b) (l := List.replicate ops.size false); simpa using this) ⟨hd.1, F.refl _ hd.1, rfl, rfl, fun _ _ => rfl, fun j hj hl => by
    rw [Array.getD_eq_getD_getElem?] at hl
    simp [hj] at hl, fun _ _ _ _ _ _ => rfl⟩
/-! ### A drawn beginning and an ordered tail -/
/-- Operation j waits for operation i, by however many steps. -/
def reach (ops : Array Oper) : Nat → Nat → Nat → Bool
  | 0, _, _ => false
  | f + 1, j, i => depOn ops j i || (List.range j).any fun k => depOn ops j k && reach ops f k i
/-- From operation m on each waits for all ahead of it. -/
def ordered (ops : Array Oper) (m : Nat) : Bool := (List.range ops.size).all fun j => decide (j < m) || (List.range j).all fun i => reach ops ops.size j i
theorem reach_listed {listed : Array Bool} (hcl : ∀ j i, listed.getD j false = true → depOn ops j i = true → listed.getD i false = true) : ∀ (f j i : Nat), (∀ k, depOn ops j k = true → listed.getD k false = true) → reach ops f j i = true → listed.getD i false = true
  | 0, _, _, _, h => by cases h
  | f + 1, j, i, hd, h => by
    simp only [reach, Bool.or_eq_true, List.any_eq_true, Bool.and_eq_true] at h
    rcases h with h | ⟨k, _, h1, h2⟩
    · exact hd i h
    · exact reach_listed hcl f k i (fun q hq => hcl k q (hd k h1) hq) h2
theorem dep_all {i : Nat} {o : Oper} {listed : Array Bool} (ho : ops[i]? = some o) (hd : ∀ e ∈ o.after, Region.binds .any e = true → listed.getD e.on false = true) : ∀ k, depOn ops i k = true → listed.getD k false = true := fun _ h => dep_listed ho hd h
theorem ordered_at {m j i : Nat} (h : ordered ops m = true) (hj : j < ops.size) (hm : m ≤ j) (hi : i < j) : reach ops ops.size j i = true := by
  have h1 := List.all_eq_true.1 h j (List.mem_range.2 hj)
  rw [Bool.or_eq_true] at h1
  rcases h1 with h1 | h1
  · have := of_decide_eq_true h1
    omega
  · exact List.all_eq_true.1 h1 i (List.mem_range.2 hi)
/-- The tail, once all ahead of it is through. -/
theorem tail_any (ht : tidy ops = true) (m : Nat) (hord : ordered ops m = true) : ∀ (n k : Nat) (fuel : Nat) (listed : Array Bool) (a : Act) (w : World), ops.size - k = n → m ≤ k → k ≤ ops.size → ops.size - k ≤ fuel → listed.size = ops.size → (∀ j, j < ops.size → (listed.getD j false = true ↔ j < k)) →
    wpList P ops Q (ops.toList.drop k) a w → wpAny P .any ops Q fuel listed a w := by
  intro n
  induction n with
  | zero =>
    intro k fuel listed a w hn hmk hk hf hls hl h
    have hke : k = ops.size := by omega
    have hr : Region.ready .any ops listed = [] := by
      apply List.eq_nil_iff_forall_not_mem.2
      intro i hi
      obtain ⟨h1, o, ho, _⟩ := mem_ready.1 hi
      have hlt : i < ops.size := (Array.getElem?_eq_some_iff.1 ho).1
      have h2 := (hl i hlt).2 (by omega)
      rw [Array.getD_eq_getD_getElem?] at h1 h2
      have hlt' : i < listed.size := by omega
      simp [hlt'] at h1 h2
      rw [h1] at h2
      cases h2
    have hQ : Q .normal a w := by
      rw [List.drop_eq_nil_of_le (by simp; omega)] at h
      exact h
    cases fuel with
    | zero => exact ⟨hr, hQ⟩
    | succ f => exact ⟨fun _ => hQ, fun i hi => (by rw [hr] at hi; cases hi)⟩
  | succ n ih =>
    intro k fuel listed a w hn hmk hk hf hls hl h
    have hlt : k < ops.size := by omega
    obtain ⟨f, rfl⟩ : ∃ f, fuel = f + 1 := ⟨fuel - 1, by omega⟩
    have hok : ops[k]? = some ops[k] := Array.getElem?_eq_getElem hlt
    have hnl : ∀ i, i < ops.size → listed.getD i true = false → ¬ i < k := fun i hi h1 hik => by
      have h2 := (hl i hi).2 hik
      rw [Array.getD_eq_getD_getElem?] at h1 h2
      have hlt' : i < listed.size := by omega
      simp [hlt'] at h1 h2
      rw [h1] at h2
      cases h2
    have hkr : k ∈ Region.ready .any ops listed := by
      refine mem_ready.2 ⟨?_, ops[k], hok, fun e he hb => ?_⟩
      · have hlt' : k < listed.size := by omega
        have h2 : ¬ listed.getD k false = true := fun h' => by have := (hl k hlt).1 h'; omega
        rw [Array.getD_eq_getD_getElem?] at h2 ⊢
        simp [hlt'] at h2 ⊢
        exact h2
      · have h3 := tidy_edge ht hok he hb
        exact (hl e.on (by omega)).2 h3
    refine ⟨fun hr => (by rw [hr] at hkr; cases hkr), fun i hi => ?_⟩
    obtain ⟨h1, o, ho, hd⟩ := mem_ready.1 hi
    have hilt : i < ops.size := (Array.getElem?_eq_some_iff.1 ho).1
    have hik : i = k := by
      have h2 := hnl i hilt h1
      rcases Nat.lt_or_ge k i with h' | h'
      · exfalso
        have hcl : ∀ j q, listed.getD j false = true → depOn ops j q = true → listed.getD q false = true := fun j q hj hq => by
          have hjl : j < ops.size := by
            rcases Nat.lt_or_ge j ops.size with h'' | h''
            · exact h''
            · rw [Array.getD_eq_getD_getElem?, Array.getElem?_eq_none (by omega)] at hj
              simp at hj
          have hjk := (hl j hjl).1 hj
          have hok' : ops[j]? = some ops[j] := Array.getElem?_eq_getElem hjl
          unfold depOn at hq
          rw [hok'] at hq
          obtain ⟨e, he, h4⟩ := Array.any_eq_true'.1 hq
          simp only [Bool.and_eq_true, beq_iff_eq] at h4
          have h5 := tidy_edge ht hok' he h4.2
          rw [← h4.1]
          exact (hl _ (by omega)).2 (by omega)
        have h6 := reach_listed hcl ops.size i k (dep_all ho hd) (ordered_at hord hilt (by omega) h')
        have := (hl k hlt).1 h6
        omega
      · omega
    subst hik
    have hoo : o = ops[i] := by rw [hok] at ho; exact (Option.some.inj ho).symm
    subst hoo
    have hdrop : ops.toList.drop i = ops[i] :: ops.toList.drop (i + 1) := by
      rw [List.drop_eq_getElem_cons (by simpa using hlt)]
      simp
    rw [hdrop] at h
    have hstep : ∀ a' w', wpList P ops Q (ops.toList.drop (i + 1)) a' w' → wpAny P .any ops Q f (listed.setIfInBounds i true) a' w' := fun a' w' h' =>
      ih (i + 1) f _ a' w' (by omega) (by omega) (by omega) (by omega) (by simp [hls]) (fun j hj => by
        by_cases hji : j = i
        · subst hji
          have hlt' : j < listed.size := by omega
          rw [Array.getD_eq_getD_getElem?]
          simp [hlt']
        · rw [Array.getD_eq_getD_getElem?, Array.getElem?_setIfInBounds_ne (fun e => hji e.symm), ← Array.getD_eq_getD_getElem?, hl j hj]
          omega) h'
    unfold wpOp
    rw [hok]
    unfold wpList at h
    show if Region.wanted ops[i] (yielded ops a.tmps) = true then _ else _
    split
    · rename_i hw
      rw [if_pos hw] at h
      rcases h with h | h
      · exact .inl (Oper.wp_mono hstep h)
      · exact .inr h
    · rename_i hw
      rw [if_neg hw] at h
      exact hstep _ _ h
/-- THE REGION: the first m operations each once, in whatever order; then the walk goes on, in the order of the text. -/
theorem wp_region_ft {id : Nat} (m : Nat) (tbl : List (ClF F)) (hm : P.follows .mixedOrders = true) (ht : tidy ops = true) (hord : ordered ops m = true) (hms : m ≤ ops.size) (hdst : ops.all (fun o => match o.dst with | some d => decide (d < a0.tmps.size) | none => true) = true) (hI : F.I w0)
    (hO : ∀ i o, i < m → ops[i]? = some o → OblF P ops tbl a0 w0.drew Q i o)
    (hT : ∀ a w, F.I w → F.Fr w0.drew w → a.tmps.size = a0.tmps.size → a.defers = a0.defers → (∀ t, (∀ j, dstOf ops j ≠ some t) → a.tmps.getD t undef = a0.tmps.getD t undef) →
      (∀ j, j < m → (tblF tbl j).holds (outOf ops a j) w) → wpList P ops Q (ops.toList.drop m) a w) :
    (Code.region id ops true).wp P Q a0 w0 := by
  refine wp_region_any hm ?_
  have key : ∀ (fuel : Nat) (listed : Array Bool) (a : Act) (w : World), listed.size = ops.size → (listed.toList.countP (fun b => !b)) ≤ fuel → RInvF ops tbl a0 w0.drew listed a w →
      (∀ j i, listed.getD j false = true → depOn ops j i = true → listed.getD i false = true) → (∀ j, m ≤ j → listed.getD j false = false) → wpAny P .any ops Q fuel listed a w := by
    have done : ∀ (fuel : Nat) (listed : Array Bool) (a : Act) (w : World), listed.size = ops.size → (listed.toList.countP (fun b => !b)) ≤ fuel → RInvF ops tbl a0 w0.drew listed a w → (∀ j, m ≤ j → listed.getD j false = false) →
        (∀ j, j < m → listed.getD j false = true) → wpAny P .any ops Q fuel listed a w := by
      intro fuel listed a w hls hc h hno hall
      refine tail_any ht m hord _ m fuel listed a w rfl (Nat.le_refl _) hms ?_ hls (fun j hj => ⟨fun h' => ?_, fun h' => hall j h'⟩) (hT a w h.inv h.ext h.size h.defers h.old fun j hj => h.vals j (by omega) (hall j hj))
      · refine Nat.le_trans ?_ hc
        have h1 : (listed.toList.drop m).countP (fun b => !b) = ops.size - m := by
          rw [List.countP_eq_length.2 ?_]
          · simp [hls]
          · intro b hb
            obtain ⟨j, hj, rfl⟩ := List.getElem_of_mem hb
            have h2 := hno (m + j) (by omega)
            rw [List.length_drop] at hj
            have h3 : m + j < listed.size := by simp at hj; omega
            rw [Array.getD_eq_getD_getElem?] at h2
            simp [h3] at h2
            simp [h2]
        rw [← h1]
        exact List.Sublist.countP_le (List.drop_sublist m _)
      · rcases Nat.lt_or_ge j m with h1 | h1
        · exact h1
        · rw [hno j h1] at h'
          cases h'
    intro fuel
    induction fuel with
    | zero =>
      intro listed a w hls hc h hcl hno
      refine done 0 listed a w hls hc h hno fun j hj => ?_
      have h0 : listed.toList.countP (fun b => !b) = 0 := by omega
      rw [List.countP_eq_zero] at h0
      have hlt : j < listed.size := by omega
      have h2 := h0 (listed[j]) (by simp)
      rw [Array.getD_eq_getD_getElem?]
      simpa [hlt] using h2
    | succ fuel ih =>
      intro listed a w hls hc h hcl hno
      by_cases hall : ∀ j, j < m → listed.getD j false = true
      · exact done _ listed a w hls hc h hno hall
      · refine ⟨fun hr => ?_, fun i hi => ?_⟩
        · exfalso
          exact hall fun j hj => all_listed ht hls hr (j + 1) j (by omega) (by omega)
        obtain ⟨h1, o, ho, hd⟩ := mem_ready.1 hi
        have hilt : i < ops.size := (Array.getElem?_eq_some_iff.1 ho).1
        have him : i < m := by
          rcases Nat.lt_or_ge i m with h' | h'
          · exact h'
          · exfalso
            exact hall fun j hj => reach_listed hcl ops.size i j (dep_all ho hd) (ordered_at hord hilt h' (by omega))
        have hlt : i < listed.size := by omega
        have hfalse : listed[i] = false := by
          rw [Array.getD_eq_getD_getElem?] at h1
          simpa [hlt] using h1
        have hcount : (listed.setIfInBounds i true).toList.countP (fun b => !b) ≤ fuel := by
          rw [Array.toList_setIfInBounds, List.countP_set (h := by simpa using hlt)]
          rw [show listed.toList[i]'(by simpa using hlt) = false by simpa using hfalse]
          simp only [Bool.not_false, Bool.not_true, if_true, Bool.false_eq_true, if_false]
          omega
        have hin : ∀ d, o.dst = some d → d < a0.tmps.size := by
          intro d hdd
          have := Array.all_eq_true_iff_forall_mem.1 hdst o (Array.mem_of_getElem? ho)
          simpa [hdd] using this
        have hset : ∀ j, (listed.setIfInBounds i true).getD j false = true ↔ (j = i ∨ listed.getD j false = true) := fun j => by
          by_cases hji : j = i
          · subst hji
            rw [Array.getD_eq_getD_getElem?]
            simp [hlt]
          · rw [Array.getD_eq_getD_getElem?, Array.getElem?_setIfInBounds_ne (fun e => hji e.symm), ← Array.getD_eq_getD_getElem?]
            simp [hji]
        refine wpOp_step ho fun K hK => ?_
        refine hO i o him ho a w h.inv h.ext (fun x => h.claim ho hd h1 x) (fun j hj hdep => h.vals j hj (dep_listed ho hd hdep)) (fun j b hdep hj hs => h.guard ho hd j b hdep hj hs) K (fun v w' hI' hb hv => hK _ _ (ih _ _ _ (by simp [hls]) hcount (h.put ht hls ho hd hin hI' hb hv) (fun j q hj hq => ?_) (fun j hj => ?_)))
        · rw [hset] at hj ⊢
          rcases hj with hj | hj
          · subst hj
            exact .inr (dep_all ho hd q hq)
          · exact .inr (hcl j q hj hq)
        · rw [Array.getD_eq_getD_getElem?, Array.getElem?_setIfInBounds_ne (by omega), ← Array.getD_eq_getD_getElem?]
          exact hno j hj
  have hd := F.drew w0 hI
  have hnone : ∀ j, (Array.replicate ops.size false).getD j false = false := fun j => by
    rw [Array.getD_eq_getD_getElem?]
    by_cases hj : j < ops.size
    · simp [hj]
    · simp [hj]
  exact key ops.size _ a0 _ (by simp) (by have := List.countP_le_length (p := fun b => !b) (l := List.replicate ops.size false); simpa using this) ⟨hd.1, F.refl _ hd.1, rfl, rfl, fun _ _ => rfl, fun j hj hl => (by rw [hnone j] at hl; exact Bool.noConfusion hl), fun _ _ _ _ _ _ => rfl⟩ (fun j i hj => by rw [hnone j] at hj; cases hj) (fun j _ => hnone j)
/-- The act behind a region: the slots that it writes are put, one by one; all others are as they were. -/
def putAll (a : Act) : List Nat → Act → Act
  | [], b => b
  | d :: r, b => putAll a r (b.put (some d) (a.tmps.getD d undef))
theorem putAll_size (a : Act) : ∀ (ds : List Nat) (b : Act), (putAll a ds b).tmps.size = b.tmps.size ∧ (putAll a ds b).defers = b.defers
  | [], b => ⟨rfl, rfl⟩
  | d :: r, b => by
    have := putAll_size a r (b.put (some d) (a.tmps.getD d undef))
    simpa [putAll, Act.put] using this
theorem putAll_get (a : Act) (t : Nat) : ∀ (ds : List Nat) (b : Act), b.tmps.size = a.tmps.size → (t ∈ ds ∨ b.tmps.getD t undef = a.tmps.getD t undef) → (putAll a ds b).tmps.getD t undef = a.tmps.getD t undef
  | [], b, _, h => by
    rcases h with h | h
    · cases h
    · exact h
  | d :: r, b, hs, h => by
    refine putAll_get a t r _ (by simp [Act.put, hs]) ?_
    by_cases hdt : d = t
    · right
      subst hdt
      rcases Nat.lt_or_ge d b.tmps.size with h1 | h1
      · exact getD_put_eq h1
      · rw [Array.getD_eq_getD_getElem?, Array.getD_eq_getD_getElem?, Array.getElem?_eq_none (by simp [Act.put]; omega), Array.getElem?_eq_none (by omega)]
    · rcases h with h | h
      · left
        rcases List.mem_cons.1 h with h | h
        · exact absurd h.symm hdt
        · exact h
      · right
        rw [getD_put_ne (by simpa using hdt)]
        exact h
theorem act_puts {a : Act} (ds : List Nat) (hds : (ops.all fun o => match o.dst with | some d => ds.contains d | none => true) = true) (hsz : a.tmps.size = a0.tmps.size) (hdf : a.defers = a0.defers) (hold : ∀ t, (∀ j, dstOf ops j ≠ some t) → a.tmps.getD t undef = a0.tmps.getD t undef) :
    a = putAll a ds a0 := by
  have h1 := putAll_size a ds a0
  have h2 : ∀ t, (putAll a ds a0).tmps.getD t undef = a.tmps.getD t undef := fun t => putAll_get a t ds a0 hsz.symm (by
    by_cases ht : t ∈ ds
    · exact .inl ht
    · right
      refine (hold t fun j hj => ht ?_).symm
      have hjl : j < ops.size := by
        rcases Nat.lt_or_ge j ops.size with h' | h'
        · exact h'
        · simp [dstOf, Array.getElem?_eq_none h'] at hj
      have h3 := Array.all_eq_true.1 hds j hjl
      have hd : ops[j].dst = some t := by simpa [dstOf, Array.getElem?_eq_getElem hjl] using hj
      rw [hd] at h3
      simpa using h3)
  obtain ⟨tm, df⟩ := a
  generalize hb : putAll ⟨tm, df⟩ ds a0 = b at h1 h2
  obtain ⟨tm', df'⟩ := b
  have e1 : df = df' := hdf.trans h1.2.symm
  subst e1
  congr 1
  apply Array.ext
  · exact hsz.trans h1.1.symm
  · intro i hi hi'
    have := h2 i
    simp only [Array.getD_eq_getD_getElem?] at this
    simp [hi, hi'] at this
    exact this.symm
/-! ### The obligations, by kind of operation (no guard) -/
theorem OblF.step {i : Nat} {o : Oper} (hg : o.guard = none)
    (h : ∀ (ev : Operand → Value) (w : World), F.I w → F.Fr w0 w → (∀ x, (clOfF ops tbl a0 i x).holds (ev x) w) → ∃ v w', (execOp ev o).run P w = .ok (.value v) w' ∧ F.I w' ∧ F.Fr w w' ∧ (tblF tbl i).holds (if o.dst.isSome then v else undef) w') : OblF P ops tbl a0 w0 Q i o := by
  intro a w hI hf hx hjs hy K hK
  have hw : Region.wanted o (yielded ops a.tmps) = true := by
    unfold Region.wanted
    rw [hg]
  rw [if_pos hw]
  obtain ⟨v, w', hrun, h1, h2, h3⟩ := h a.eval w hI hf hx
  unfold Oper.wp
  rw [hrun]
  exact hK v w' h1 h2 h3
/-- A store: it yields nothing. -/
theorem OblF.store {i : Nat} {o : Oper} (hg : o.guard = none) (hds : o.dst = none)
    (h : ∀ (ev : Operand → Value) (w : World), F.I w → F.Fr w0 w → (∀ x, (clOfF ops tbl a0 i x).holds (ev x) w) → ∃ w', (execOp ev o).run P w = .ok .skip w' ∧ F.I w' ∧ F.Fr w w' ∧ (tblF tbl i).holds undef w') : OblF P ops tbl a0 w0 Q i o := by
  intro a w hI hf hx hjs hy K hK
  have hw : Region.wanted o (yielded ops a.tmps) = true := by
    unfold Region.wanted
    rw [hg]
  rw [if_pos hw]
  obtain ⟨w', hrun, h1, h2, h3⟩ := h a.eval w hI hf hx
  unfold Oper.wp
  rw [hrun]
  exact hK undef w' h1 h2 (by rw [hds]; exact h3)
theorem OblF.call {i : Nat} {o : Oper} (hg : o.guard = none) (f : FuncId) (args : Array Operand) (tys : Array TypeId) (ho : o.op = .call { callee := .value (.func f), args := args, argTypes := tys })
    (fn : Func) (hf : P.funcs[f]? = some fn) (hname : (fn.name == "runtime.NumGoroutine") = false) (hbody : fn.body.isSome = true) (hds : o.dst.isSome = true)
    (hc : ∀ (ev : Operand → Value) (w : World), F.I w → F.Fr w0 w → (∀ x, (clOfF ops tbl a0 i x).holds (ev x) w) → Calls P f (args.map ev) w fun e w' => ∃ v, e = .returned v ∧ F.I w' ∧ F.Fr w w' ∧ (tblF tbl i).holds v w') : OblF P ops tbl a0 w0 Q i o := by
  intro a w hI hfr hx hjs hy K hK
  have hw : Region.wanted o (yielded ops a.tmps) = true := by
    unfold Region.wanted
    rw [hg]
  rw [if_pos hw]
  obtain ⟨c, hc'⟩ := Option.isSome_iff_exists.1 hbody
  have h1 : fn.name ≠ "runtime.NumGoroutine" := by simpa using hname
  have hrun : (execOp a.eval o).run P w = .ok (.enter f (args.map a.eval)) w := by
    simp [execOp, ho, resolve, Act.eval, Deferred.ofValue, invoke, callFunc, hf, h1, hc']
  unfold Oper.wp
  rw [hrun]
  exact (hc a.eval w hI hfr hx).mono fun e w' ⟨v, he, h1, h2, h3⟩ => by subst he; exact hK v w' h1 h2 (by rw [if_pos hds]; exact h3)
theorem holds_valF {c : ClF F} {u v : Value} {w : World} (h : c.holds v w) (e : c = .val u) : v = u := by subst e; exact h
theorem holds_predF {c : ClF F} {p : Value → World → Prop} {st : ∀ v a b, F.I a → F.Fr a b → F.I b → p v a → p v b} {v : Value} {w : World} (h : c.holds v w) (e : c = .pred p st) : p v w := by subst e; exact h
/-- An operation that leaves the world alone and yields what is claimed as a value. -/
theorem OblF.pure {i : Nat} {o : Oper} (hg : o.guard = none) (v : Value) (ht : tblF tbl i = .val v) (hds : o.dst.isSome = true)
    (h : ∀ (ev : Operand → Value) (w : World), F.I w → F.Fr w0 w → (∀ x, (clOfF ops tbl a0 i x).holds (ev x) w) → (execOp ev o).run P w = .ok (.value v) w) : OblF P ops tbl a0 w0 Q i o :=
  OblF.step hg fun ev w hI hf hx => ⟨v, w, h ev w hI hf hx, hI, F.refl _ hI, by rw [if_pos hds, ht]; rfl⟩
theorem OblF.move {i : Nat} {o : Oper} (hg : o.guard = none) (x : Operand) (ho : o.op = .move x ∨ o.op = .assign x) (ht : tblF tbl i = clOfF ops tbl a0 i x) (hds : o.dst.isSome = true) : OblF P ops tbl a0 w0 Q i o :=
  OblF.step hg fun ev w hI hf hx => ⟨ev x, w, by rcases ho with ho | ho <;> (unfold execOp; rw [ho]; rfl), hI, F.refl _ hI, by rw [if_pos hds, ht]; exact hx x⟩
def AllOblF (P : Program) (ops : Array Oper) (tbl : List (ClF F)) (a0 : Act) (w0 : World) (Q : Exit → Act → World → Prop) : Nat → List Oper → Prop
  | _, [] => True
  | i, o :: r => OblF P ops tbl a0 w0 Q i o ∧ AllOblF P ops tbl a0 w0 Q (i + 1) r
theorem AllOblF.at_ : ∀ (l : List Oper) (k : Nat), AllOblF P ops tbl a0 w0 Q k l → ∀ i o, l[i]? = some o → OblF P ops tbl a0 w0 Q (k + i) o
  | [], _, _, i, o, h => by simp at h
  | x :: r, k, hA, 0, o, h => by
    simp at h
    subst h
    exact hA.1
  | x :: r, k, hA, i + 1, o, h => by
    have := AllOblF.at_ r (k + 1) hA.2 i o (by simpa using h)
    rwa [Nat.add_assoc, Nat.add_comm 1 i] at this
theorem AllOblF.all (h : AllOblF P ops tbl a0 w0 Q 0 ops.toList) : ∀ i o, ops[i]? = some o → OblF P ops tbl a0 w0 Q i o := by
  intro i o ho
  have := AllOblF.at_ ops.toList 0 h i o (by simpa using ho)
  rwa [Nat.zero_add] at this
theorem AllOblF.upto {m : Nat} (h : AllOblF P ops tbl a0 w0 Q 0 (ops.toList.take m)) : ∀ i o, i < m → ops[i]? = some o → OblF P ops tbl a0 w0 Q i o := by
  intro i o hi ho
  have := AllOblF.at_ (ops.toList.take m) 0 h i o (by rw [List.getElem?_take, if_pos hi]; simpa using ho)
  rwa [Nat.zero_add] at this
theorem tbl_outF {tbl : List (ClF F)} {n j : Nat} (h : tbl.length = n) (hj : n ≤ j) : tblF tbl j = .any := by
  unfold tblF
  rw [List.getElem?_eq_none (by omega)]
  rfl
end Go.Proofs.Ytfijlgkgbbemnaa
