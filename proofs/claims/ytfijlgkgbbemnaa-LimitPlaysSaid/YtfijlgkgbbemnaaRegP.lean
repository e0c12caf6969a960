/- A region that draws its order, by an invariant, each operation once: as Reg, but an operation's result may be claimed by any predicate that later worlds keep. No function of the program. -/
import Derived.Test.YtfijlgkgbbemnaaNo
namespace Go.Proofs.Ytfijlgkgbbemnaa.RP
open Go.RowKit
set_option linter.unusedVariables false
set_option linter.unusedSimpArgs false
set_option maxRecDepth 20000

/-- What is claimed of an operation's result. -/
inductive Cl where
  | any
  | val (v : Value)
  | bytes (l : List UInt8)
  | pred (p : Value → World → Prop) (st : ∀ v w w', Below w.heap.size w w' → p v w → p v w')
def Cl.holds : Cl → Value → World → Prop
  | .any, _, _ => True
  | .val u, v, _ => v = u
  | .bytes l, v, w => ∃ A n c, v = .slice A n c ∧ R8 w w.heap.size A n c l
  | .pred p _, v, w => p v w
theorem Cl.keep {c : Cl} {v : Value} {w w' : World} (h : c.holds v w) (hb : Below w.heap.size w w') : c.holds v w' := by
  cases c with
  | any => trivial
  | val u => exact h
  | bytes l =>
    obtain ⟨A, n, c, rfl, hr⟩ := h
    exact ⟨A, n, c, rfl, hr.on hb⟩
  | pred p st => exact st v w w' hb h
def tblAt (tbl : List Cl) (i : Nat) : Cl := (tbl[i]?).getD .any
/-- What is claimed of an operand of operation i. -/
def clOf (ops : Array Oper) (tbl : List Cl) (a0 : Act) (i : Nat) : Operand → Cl
  | .tmp t => match (List.range ops.size).find? (fun j => dstOf ops j == some t) with
    | some j => if depOn ops i j then tblAt tbl j else if depOn ops j i then .val (a0.tmps.getD t undef) else .any
    | none => .val (a0.tmps.getD t undef)
  | .const v => .val v
  | .global g => .val (.pointer (some ⟨g, 0, none⟩))
  | .func f => .val (.func (.func f) #[] #[])
/-- The invariant: what is listed is as claimed; all other slots are as they were. -/
structure RInv (ops : Array Oper) (tbl : List Cl) (a0 : Act) (w0 : World) (listed : Array Bool) (a : Act) (w : World) : Prop where
  ext : Below w0.heap.size w0 w
  size : a.tmps.size = a0.tmps.size
  defers : a.defers = a0.defers
  old : ∀ t, (∀ j, dstOf ops j ≠ some t) → a.tmps.getD t undef = a0.tmps.getD t undef
  vals : ∀ j d, dstOf ops j = some d → listed.getD j false = true → (tblAt tbl j).holds (a.tmps.getD d undef) w
  young : ∀ i j t, dstOf ops j = some t → depOn ops j i = true → listed.getD i true = false → a.tmps.getD t undef = a0.tmps.getD t undef

variable {P : Program} {ops : Array Oper} {tbl : List Cl} {a0 : Act} {w0 : World} {Q : Exit → Act → World → Prop}

/-- What is to be shown of one operation. -/
def Obl (P : Program) (ops : Array Oper) (tbl : List Cl) (a0 : Act) (w0 : World) (Q : Exit → Act → World → Prop) (i : Nat) (o : Oper) : Prop :=
  ∀ (a : Act) (w : World), Below w0.heap.size w0 w → (∀ x, (clOf ops tbl a0 i x).holds (a.eval x) w) →
    (∀ j u, depOn ops i j = true → tblAt tbl j = .val u → (dstOf ops j).isSome = true → yielded ops a.tmps j = boolOf u) →
    ∀ K : Act → World → Prop, (∀ v w', Below w.heap.size w w' → (tblAt tbl i).holds v w' → K (a.put o.dst v) w') →
      if Region.wanted o (yielded ops a.tmps) = true then Oper.wp P o a w K Q else K (a.put o.dst undef) w

theorem RInv.claim {listed : Array Bool} {a : Act} {w : World} (h : RInv ops tbl a0 w0 listed a w) {i : Nat} {o : Oper} (ho : ops[i]? = some o) (hd : ∀ e ∈ o.after, Region.binds .any e = true → listed.getD e.on false = true) (hni : listed.getD i true = false) (x : Operand) : (clOf ops tbl a0 i x).holds (a.eval x) w := by
  cases x with
  | tmp t =>
    simp only [clOf]
    cases hf : (List.range ops.size).find? (fun j => dstOf ops j == some t) with
    | none =>
      simp only
      refine h.old t fun j hj => ?_
      have h1 := List.find?_eq_none.1 hf j
      have hlt : j < ops.size := by
        rcases Nat.lt_or_ge j ops.size with h' | h'
        · exact h'
        · simp [dstOf, Array.getElem?_eq_none h'] at hj
      exact h1 (List.mem_range.2 hlt) (by simp [hj])
    | some j =>
      by_cases hdep : depOn ops i j = true
      · simp only [hdep, if_true]
        have h1 := List.find?_some hf
        exact h.vals j t (by simpa using h1) (dep_listed ho hd hdep)
      · by_cases hdj : depOn ops j i = true
        · simp only [hdep, hdj, if_true]
          have h1 := List.find?_some hf
          exact h.young i j t (by simpa using h1) hdj hni
        · simp only [hdep, hdj]
          trivial
  | const v => rfl
  | global g => rfl
  | func f => rfl

theorem RInv.guard {listed : Array Bool} {a : Act} {w : World} (h : RInv ops tbl a0 w0 listed a w) {i : Nat} {o : Oper} (ho : ops[i]? = some o) (hd : ∀ e ∈ o.after, Region.binds .any e = true → listed.getD e.on false = true) (j : Nat) (u : Value) (hdep : depOn ops i j = true) (ht : tblAt tbl j = .val u) (hdst : (dstOf ops j).isSome = true) : yielded ops a.tmps j = boolOf u := by
  obtain ⟨d, hj⟩ := Option.isSome_iff_exists.1 hdst
  have h1 := h.vals j d hj (dep_listed ho hd hdep)
  rw [ht] at h1
  have h2 : a.tmps.getD d undef = u := h1
  have hj' : (ops[j]?).bind (·.dst) = some d := hj
  unfold yielded
  rw [hj', Option.bind_some]
  rw [Array.getD_eq_getD_getElem?] at h2
  cases hh : a.tmps[d]? with
  | none =>
    rw [hh] at h2
    subst h2
    rfl
  | some z =>
    rw [hh] at h2
    have h3 : z = u := h2
    subst h3
    cases z <;> rfl

theorem RInv.put {listed : Array Bool} {a : Act} {w w' : World} (h : RInv ops tbl a0 w0 listed a w) {i : Nat} {o : Oper} (ht : tidy ops = true) (hls : listed.size = ops.size) (ho : ops[i]? = some o) (hd : ∀ e ∈ o.after, Region.binds .any e = true → listed.getD e.on false = true) (hin : ∀ d, o.dst = some d → d < a0.tmps.size) {v : Value}
    (hb : Below w.heap.size w w') (hv : (tblAt tbl i).holds v w') : RInv ops tbl a0 w0 (listed.setIfInBounds i true) (a.put o.dst v) w' := by
  have hi : i < ops.size := (Array.getElem?_eq_some_iff.1 ho).1
  have hdi : dstOf ops i = o.dst := by simp [dstOf, ho]
  refine ⟨h.ext.trans (hb.mono h.ext.size), ?_, ?_, fun t hold => ?_, fun j d hj hl => ?_, fun i' j t hj hdep hni => ?_⟩
  · cases hd : o.dst <;> simp [Act.put, h.size]
  · cases hd : o.dst <;> simp [Act.put, h.defers]
  · rw [getD_put_ne (by rw [← hdi]; exact hold i)]
    exact h.old t hold
  · by_cases hji : j = i
    · subst hji
      rw [hdi] at hj
      rw [hj, getD_put_eq (by rw [h.size]; exact hin d hj)]
      exact hv
    · have hjlt : j < ops.size := by
        rcases Nat.lt_or_ge j ops.size with h' | h'
        · exact h'
        · simp [dstOf, Array.getElem?_eq_none h'] at hj
      have hne : o.dst ≠ some d := by
        rw [← hdi]
        exact tidy_dst_ne ht hjlt hi hji hj
      rw [getD_put_ne hne]
      have hl' : listed.getD j false = true := by
        rw [Array.getD_eq_getD_getElem?, Array.getElem?_setIfInBounds_ne (fun e => hji e.symm)] at hl
        rw [Array.getD_eq_getD_getElem?]
        exact hl
      exact Cl.keep (h.vals j d hj hl') hb
  · have hii : i' ≠ i := fun e => by
      subst e
      rw [Array.getD_eq_getD_getElem?, Array.getElem?_setIfInBounds_self] at hni
      simp [hls, hi] at hni
    have hni' : listed.getD i' true = false := by
      rw [Array.getD_eq_getD_getElem?, Array.getElem?_setIfInBounds_ne (fun e => hii e.symm)] at hni
      rw [Array.getD_eq_getD_getElem?]
      exact hni
    have hji : j ≠ i := fun e => by
      subst e
      have := dep_listed ho hd hdep
      rw [Array.getD_eq_getD_getElem?] at this hni'
      cases hq : listed[i']? <;> simp [hq] at this hni'
      rw [this] at hni'
      exact absurd hni' (by decide)
    have hjlt : j < ops.size := by
      rcases Nat.lt_or_ge j ops.size with h' | h'
      · exact h'
      · simp [dstOf, Array.getElem?_eq_none h'] at hj
    have hne : o.dst ≠ some t := by
      rw [← hdi]
      exact tidy_dst_ne ht hjlt hi hji hj
    rw [getD_put_ne hne]
    exact h.young i' j t hj hdep hni'
/-- THE REGION: each operation once. -/
theorem wp_region_tbl {id : Nat} (tbl : List Cl) (hm : P.follows .mixedOrders = true) (ht : tidy ops = true) (hdst : ops.all (fun o => match o.dst with | some d => decide (d < a0.tmps.size) | none => true) = true)
    (hO : ∀ i o, ops[i]? = some o → Obl P ops tbl a0 w0.drew Q i o)
    (hQ : ∀ a w, Below w0.drew.heap.size w0.drew w → a.tmps.size = a0.tmps.size → a.defers = a0.defers → (∀ t, (∀ j, dstOf ops j ≠ some t) → a.tmps.getD t undef = a0.tmps.getD t undef) →
      (∀ j d, dstOf ops j = some d → (tblAt tbl j).holds (a.tmps.getD d undef) w) → Q .normal a w) :
    (Code.region id ops true).wp P Q a0 w0 := by
  refine wp_region_any hm ?_
  have key : ∀ (fuel : Nat) (listed : Array Bool) (a : Act) (w : World), listed.size = ops.size → (listed.toList.countP (fun b => !b)) ≤ fuel → RInv ops tbl a0 w0.drew listed a w → wpAny P .any ops Q fuel listed a w := by
    have done : ∀ (listed : Array Bool) (a : Act) (w : World), listed.size = ops.size → RInv ops tbl a0 w0.drew listed a w → Region.ready .any ops listed = [] → Q .normal a w := by
      intro listed a w hls h hr
      refine hQ a w h.ext h.size h.defers h.old fun j d hj => h.vals j d hj ?_
      have hjlt : j < ops.size := by
        rcases Nat.lt_or_ge j ops.size with h' | h'
        · exact h'
        · simp [dstOf, Array.getElem?_eq_none h'] at hj
      exact all_listed ht hls hr (j + 1) j (by omega) hjlt
    intro fuel
    induction fuel with
    | zero =>
      intro listed a w hls hc h
      have hr : Region.ready .any ops listed = [] := by
        apply List.eq_nil_iff_forall_not_mem.2
        intro i hi
        obtain ⟨h1, o, ho, _⟩ := mem_ready.1 hi
        have hlt : i < listed.size := by rw [hls]; exact (Array.getElem?_eq_some_iff.1 ho).1
        have h0 : listed.toList.countP (fun b => !b) = 0 := by omega
        rw [List.countP_eq_zero] at h0
        have h2 := h0 (listed[i]) (by simp)
        rw [Array.getD_eq_getD_getElem?] at h1
        simp [hlt] at h1
        simp [h1] at h2
      exact ⟨hr, done listed a w hls h hr⟩
    | succ fuel ih =>
      intro listed a w hls hc h
      refine ⟨fun hr => done listed a w hls h hr, fun i hi => ?_⟩
      obtain ⟨h1, o, ho, hd⟩ := mem_ready.1 hi
      have hlt : i < listed.size := by rw [hls]; exact (Array.getElem?_eq_some_iff.1 ho).1
      have hfalse : listed[i] = false := by
        rw [Array.getD_eq_getD_getElem?] at h1
        simpa [hlt] using h1
      have hcount : (listed.setIfInBounds i true).toList.countP (fun b => !b) ≤ fuel := by
        rw [Array.toList_setIfInBounds, List.countP_set (h := by simpa using hlt)]
        rw [show listed.toList[i]'(by simpa using hlt) = false by simpa using hfalse]
        simp only [Bool.not_false, Bool.not_true, if_true, Bool.false_eq_true, if_false]
        omega
      have hin : ∀ d, o.dst = some d → d < a0.tmps.size := by
        intro d hdd
        have := Array.all_eq_true_iff_forall_mem.1 hdst o (Array.mem_of_getElem? ho)
        simpa [hdd] using this
      refine wpOp_step ho fun K hK => ?_
      refine hO i o ho a w h.ext (fun x => h.claim ho hd h1 x) (fun j b hdep hj hs => h.guard ho hd j b hdep hj hs) K (fun v w' hb hv => hK _ _ (ih _ _ _ (by simp [hls]) hcount (h.put ht hls ho hd hin hb hv)))
  exact key ops.size _ a0 _ (by simp) (by have := List.countP_le_length (p := fun b => !b) (l := List.replicate ops.size false); simpa using this) ⟨Below.refl _ _, rfl, rfl, fun _ _ => rfl, fun j d hj hl => by
    rw [Array.getD_eq_getD_getElem?] at hl
    by_cases hjl : j < ops.size
    · simp [hjl] at hl
    · simp [hjl] at hl, fun _ _ _ _ _ _ => rfl⟩
/-! ### The obligations, by kind of operation -/
/-- The operation is wanted: no guard, or a guard whose claim is the one wished. -/
def gOk (ops : Array Oper) (tbl : List Cl) (i : Nat) (o : Oper) : Prop := match o.guard with
  | none => True
  | some (j, b) => depOn ops i j = true ∧ tblAt tbl j = .val (.bool b) ∧ (dstOf ops j).isSome = true
theorem Obl.mk {i : Nat} {o : Oper} (hg : gOk ops tbl i o)
    (h : ∀ (a : Act) (w : World), Below w0.heap.size w0 w → (∀ x, (clOf ops tbl a0 i x).holds (a.eval x) w) →
      ∀ K : Act → World → Prop, (∀ v w', Below w.heap.size w w' → (tblAt tbl i).holds v w' → K (a.put o.dst v) w') → Oper.wp P o a w K Q) : Obl P ops tbl a0 w0 Q i o := by
  intro a w hb hx hy K hK
  have hw : Region.wanted o (yielded ops a.tmps) = true := by
    unfold gOk at hg
    unfold Region.wanted
    split
    · rfl
    · rename_i j b hgd
      rw [hgd] at hg
      rw [hy j _ hg.1 hg.2.1 hg.2.2]
      simp [boolOf]
  rw [if_pos hw]
  exact h a w hb hx K hK
theorem Obl.skip {i : Nat} {o : Oper} (j : Nat) (b : Bool) (u : Value) (hg : o.guard = some (j, b)) (h1 : depOn ops i j = true) (h2 : tblAt tbl j = .val u) (hu : (boolOf u == some b) = false) (h3 : (dstOf ops j).isSome = true)
    (ht' : ∀ w, (tblAt tbl i).holds undef w) : Obl P ops tbl a0 w0 Q i o := by
  intro a w hb hx hy K hK
  have hw : Region.wanted o (yielded ops a.tmps) = false := by
    unfold Region.wanted
    rw [hg]
    simp only
    rw [hy j u h1 h2 h3]
    exact hu
  rw [hw]
  exact hK _ _ (Below.refl _ _) (ht' w)
theorem Obl.move {i : Nat} {o : Oper} (hg : gOk ops tbl i o) (x : Operand) (ho : o.op = .move x ∨ o.op = .assign x) (ht : tblAt tbl i = clOf ops tbl a0 i x) : Obl P ops tbl a0 w0 Q i o :=
  Obl.mk hg fun a w hb hx K hK => by
    have h := hK (a.eval x) w (Below.refl _ _) (by rw [ht]; exact hx x)
    rcases ho with ho | ho <;> (unfold Oper.wp execOp; rw [ho]; exact h)
theorem Obl.pick {i : Nat} {o : Oper} (hg : gOk ops tbl i o) (c x y : Operand) (ho : o.op = .pick c x y) (b : Bool) (hc : clOf ops tbl a0 i c = .val (.bool b)) (ht : tblAt tbl i = clOf ops tbl a0 i (if b then x else y)) : Obl P ops tbl a0 w0 Q i o :=
  Obl.mk hg fun a w hb hx K hK => by
    have h1 := hx c
    rw [hc] at h1
    have h2 : a.eval c = .bool b := h1
    have h := hK (a.eval (if b then x else y)) w (Below.refl _ _) (by rw [ht]; exact hx _)
    unfold Oper.wp execOp
    rw [ho]
    simp only [h2]
    cases b <;> exact h
/-- An operation on two values that are claimed. -/
theorem Obl.bin {i : Nat} {o : Oper} (hg : gOk ops tbl i o) (op : BinOp) (ty : TypeId) (x y : Operand) (ty' : TypeId) (ho : o.op = .binOp op ty x y ty') (vx vy v : Value)
    (h1 : clOf ops tbl a0 i x = .val vx) (h2 : clOf ops tbl a0 i y = .val vy) (hr : ∀ w, (do eqGuard op ty x y vx vy; binOp op ty vx vy : Sem Value).run P w = .ok v w) (ht : tblAt tbl i = .val v) : Obl P ops tbl a0 w0 Q i o :=
  Obl.mk hg fun a w hb hx K hK => by
    have e1 := hx x
    have e2 := hx y
    rw [h1] at e1
    rw [h2] at e2
    have e1' : a.eval x = vx := e1
    have e2' : a.eval y = vy := e2
    have h := hK v w (Below.refl _ _) (by rw [ht]; rfl)
    have hrun : (execOp a.eval o).run P w = .ok (.value v) w := by
      have := hr w
      simp only [execOp, ho, e1', e2', Sem.run_bind] at this ⊢
      rw [this]
      rfl
    unfold Oper.wp
    rw [hrun]
    exact h
theorem Obl.un {i : Nat} {o : Oper} (hg : gOk ops tbl i o) (op : UnOp) (ty : TypeId) (x : Operand) (ho : o.op = .unOp op ty x) (vx v : Value)
    (h1 : clOf ops tbl a0 i x = .val vx) (hr : ∀ w, (Op.unary op vx).run P w = .ok v w) (ht : tblAt tbl i = .val v) : Obl P ops tbl a0 w0 Q i o :=
  Obl.mk hg fun a w hb hx K hK => by
    have e1 := hx x
    rw [h1] at e1
    have e1' : a.eval x = vx := e1
    have h := hK v w (Below.refl _ _) (by rw [ht]; rfl)
    have hrun : (execOp a.eval o).run P w = .ok (.value v) w := by
      simp only [execOp, ho, e1', Sem.run_bind, hr w]
      rfl
    unfold Oper.wp
    rw [hrun]
    exact h
theorem holds_val {c : Cl} {u v : Value} {w : World} (h : c.holds v w) (e : c = .val u) : v = u := by subst e; exact h
theorem holds_undef {c : Cl} {w : World} (e : c = .val undef) : c.holds undef w := by subst e; rfl
/-- A conversion of a value that is claimed. -/
theorem Obl.conv {i : Nat} {o : Oper} (hg : gOk ops tbl i o) (src dst : TypeId) (x : Operand) (ho : o.op = .convert src dst x) (vx v : Value)
    (h1 : clOf ops tbl a0 i x = .val vx) (hr : ∀ w, (convert src dst vx).run P w = .ok v w) (ht : tblAt tbl i = .val v) : Obl P ops tbl a0 w0 Q i o :=
  Obl.mk hg fun a w hb hx K hK => by
    have e1 : a.eval x = vx := holds_val (hx x) h1
    have h := hK v w (Below.refl _ _) (by rw [ht]; rfl)
    have hrun : (execOp a.eval o).run P w = .ok (.value v) w := by
      simp only [execOp, ho, e1, Sem.run_bind, hr w]
      rfl
    unfold Oper.wp
    rw [hrun]
    exact h
/-- A builtin of two values that are claimed. -/
theorem Obl.bi2 {i : Nat} {o : Oper} (hg : gOk ops tbl i o) (b : Builtin) (x y : Operand) (tys : Array TypeId) (ho : o.op = .call { callee := .builtin b, args := #[x, y], argTypes := tys }) (vx vy v : Value)
    (h1 : clOf ops tbl a0 i x = .val vx) (h2 : clOf ops tbl a0 i y = .val vy) (hr : ∀ w cs, (builtin b tys o.type cs #[vx, vy]).run P w = .ok (.value v) w) (ht : tblAt tbl i = .val v) : Obl P ops tbl a0 w0 Q i o :=
  Obl.mk hg fun a w hb hx K hK => by
    have e1 : a.eval x = vx := holds_val (hx x) h1
    have e2 : a.eval y = vy := holds_val (hx y) h2
    have h := hK v w (Below.refl _ _) (by rw [ht]; rfl)
    have hrun : (execOp a.eval o).run P w = .ok (.value v) w := by
      simp only [execOp, ho, resolve, List.map_toArray, List.map_cons, List.map_nil, e1, e2, Sem.run_bind, Sem.run_pure, Result.andThen_ok, invoke]
      exact hr w _
    unfold Oper.wp
    rw [hrun]
    exact h
/-- x[:hi] of values that are claimed. -/
theorem Obl.cutH {i : Nat} {o : Oper} (hg : gOk ops tbl i o) (t : TypeId) (x y : Operand) (ho : o.op = .slice t x none (some y) none) (vx vy v : Value)
    (h1 : clOf ops tbl a0 i x = .val vx) (h2 : clOf ops tbl a0 i y = .val vy) (hr : ∀ w, (Instr.sliceAt t vx none (some vy) none).run P w = .ok v w) (ht : tblAt tbl i = .val v) : Obl P ops tbl a0 w0 Q i o :=
  Obl.mk hg fun a w hb hx K hK => by
    have e1 : a.eval x = vx := holds_val (hx x) h1
    have e2 : a.eval y = vy := holds_val (hx y) h2
    have h := hK v w (Below.refl _ _) (by rw [ht]; rfl)
    have hrun : (execOp a.eval o).run P w = .ok (.value v) w := by
      simp only [execOp, ho, e1, e2, Option.map_some, Option.map_none, Sem.run_bind, hr w]
      rfl
    unfold Oper.wp
    rw [hrun]
    exact h
/-- string(p) of a slice that reads as bytes. -/
theorem Obl.str {i : Nat} {o : Oper} (hg : gOk ops tbl i o) (src e dst : TypeId) (x : Operand) (ho : o.op = .convert src dst x) (hs : P.underlying src = some (.slice e)) (he : P.underlying e = some (.int .u8)) (hd : P.underlying dst = some .string)
    (l : List UInt8) (h1 : clOf ops tbl a0 i x = .bytes l ∨ ∃ A n c, clOf ops tbl a0 i x = .val (.slice A n c) ∧ R8 w0 w0.heap.size A n c l) (ht : tblAt tbl i = .val (.string ⟨l.toArray⟩)) : Obl P ops tbl a0 w0 Q i o :=
  Obl.mk hg fun a w hb hx K hK => by
    have h := hK (.string ⟨l.toArray⟩) w (Below.refl _ _) (by rw [ht]; rfl)
    have hrd : ∃ A n c, a.eval x = .slice A n c ∧ R8 w w.heap.size A n c l := by
      have e1 := hx x
      rcases h1 with h1 | ⟨A, n, c, h1, hr⟩
      · rw [h1] at e1
        exact e1
      · rw [h1] at e1
        exact ⟨A, n, c, e1, hr.on hb⟩
    obtain ⟨A, n, c, e1, hr⟩ := hrd
    have hrun : (execOp a.eval o).run P w = .ok (.value (.string ⟨l.toArray⟩)) w := by
      simp only [execOp, ho, e1, Sem.run_bind, hr.string src e dst hs he hd]
      rfl
    unfold Oper.wp
    rw [hrun]
    exact h
/-- A call of a Go function, by its contract. -/
theorem Obl.call {i : Nat} {o : Oper} (hg : gOk ops tbl i o) (f : FuncId) (args : Array Operand) (tys : Array TypeId) (ho : o.op = .call { callee := .value (.func f), args := args, argTypes := tys })
    (fn : Func) (hf : P.funcs[f]? = some fn) (hname : (fn.name == "runtime.NumGoroutine") = false) (hbody : fn.body.isSome = true)
    (hc : ∀ (ev : Operand → Value) (w : World), Below w0.heap.size w0 w → (∀ x, (clOf ops tbl a0 i x).holds (ev x) w) → Calls P f (args.map ev) w fun e w' => ∃ v, e = .returned v ∧ Below w.heap.size w w' ∧ (tblAt tbl i).holds v w') : Obl P ops tbl a0 w0 Q i o :=
  Obl.mk hg fun a w hb hx K hK => by
    obtain ⟨c, hc'⟩ := Option.isSome_iff_exists.1 hbody
    have h1 : fn.name ≠ "runtime.NumGoroutine" := by simpa using hname
    have hrun : (execOp a.eval o).run P w = .ok (.enter f (args.map a.eval)) w := by
      simp [execOp, ho, resolve, Act.eval, Deferred.ofValue, invoke, callFunc, hf, h1, hc']
    unfold Oper.wp
    rw [hrun]
    exact (hc a.eval w hb hx).mono fun e w' ⟨v, he, hb', hv⟩ => by subst he; exact hK v w' hb' hv
theorem holds_bytes {c : Cl} {l : List UInt8} {v : Value} {w : World} (h : c.holds v w) (e : c = .bytes l) : ∃ A n k, v = .slice A n k ∧ R8 w w.heap.size A n k l := by subst e; exact h
theorem Yes.holds {w w' : World} {e : Ending} {c : Cl} (hc : c = .val (.bool true)) (h : Yes w e w') : ∃ v, e = .returned v ∧ Below w.heap.size w w' ∧ c.holds v w' := by
  subst hc
  exact ⟨_, h.1, h.2, rfl⟩
/-- len of a slice. -/
theorem Obl.lenV {i : Nat} {o : Oper} {x : Operand} (hg : gOk ops tbl i o) (ty e : TypeId) (hu : P.underlying ty = some (.slice e)) (ho : o.op = .call { callee := .builtin .len, args := #[x], argTypes := #[ty] }) (A : Option Addr) (n c : Nat)
    (h1 : clOf ops tbl a0 i x = .val (.slice A n c)) (ht : tblAt tbl i = .val (.int .i64 (n : Int))) : Obl P ops tbl a0 w0 Q i o :=
  Obl.mk hg fun a w hb hx K hK => by
    have e1 : a.eval x = .slice A n c := holds_val (hx x) h1
    have h := hK (.int .i64 (n : Int)) w (Below.refl _ _) (by rw [ht]; rfl)
    have hrun : (execOp a.eval o).run P w = .ok (.value (.int .i64 (n : Int))) w := by
      simp [execOp, ho, resolve, invoke, builtin, e1, Builtin.len_, goInt, run_underlying hu]
    unfold Oper.wp
    rw [hrun]
    exact h
theorem Obl.lenB {i : Nat} {o : Oper} {x : Operand} (hg : gOk ops tbl i o) (ty e : TypeId) (hu : P.underlying ty = some (.slice e)) (ho : o.op = .call { callee := .builtin .len, args := #[x], argTypes := #[ty] }) (l : List UInt8)
    (h1 : clOf ops tbl a0 i x = .bytes l) (ht : tblAt tbl i = .val (.int .i64 (l.length : Int))) : Obl P ops tbl a0 w0 Q i o :=
  Obl.mk hg fun a w hb hx K hK => by
    obtain ⟨A, n, c, e1, hr⟩ := holds_bytes (hx x) h1
    have h := hK (.int .i64 (n : Int)) w (Below.refl _ _) (by rw [ht, ← hr.1]; rfl)
    have hrun : (execOp a.eval o).run P w = .ok (.value (.int .i64 (n : Int))) w := by
      simp [execOp, ho, resolve, invoke, builtin, e1, Builtin.len_, goInt, run_underlying hu]
    unfold Oper.wp
    rw [hrun]
    exact h
/-- len of a string. -/
theorem Obl.lenS {i : Nat} {o : Oper} {x : Operand} (hg : gOk ops tbl i o) (ty : TypeId) (hu : P.underlying ty = some .string) (ho : o.op = .call { callee := .builtin .len, args := #[x], argTypes := #[ty] }) (s : ByteArray)
    (h1 : clOf ops tbl a0 i x = .val (.string s)) (ht : tblAt tbl i = .val (.int .i64 (s.size : Int))) : Obl P ops tbl a0 w0 Q i o :=
  Obl.mk hg fun a w hb hx K hK => by
    have e1 : a.eval x = .string s := holds_val (hx x) h1
    have h := hK (.int .i64 (s.size : Int)) w (Below.refl _ _) (by rw [ht]; rfl)
    have hrun : (execOp a.eval o).run P w = .ok (.value (.int .i64 (s.size : Int))) w := by
      simp [execOp, ho, resolve, invoke, builtin, e1, Builtin.len_, goInt, run_underlying hu]
    unfold Oper.wp
    rw [hrun]
    exact h
/-- x[lo:] of values that are claimed. -/
theorem Obl.cutLo {i : Nat} {o : Oper} (hg : gOk ops tbl i o) (t : TypeId) (x y : Operand) (ho : o.op = .slice t x (some y) none none) (vx vy v : Value)
    (h1 : clOf ops tbl a0 i x = .val vx) (h2 : clOf ops tbl a0 i y = .val vy) (hr : ∀ w, (Instr.sliceAt t vx (some vy) none none).run P w = .ok v w) (ht : tblAt tbl i = .val v) : Obl P ops tbl a0 w0 Q i o :=
  Obl.mk hg fun a w hb hx K hK => by
    have e1 : a.eval x = vx := holds_val (hx x) h1
    have e2 : a.eval y = vy := holds_val (hx y) h2
    have h := hK v w (Below.refl _ _) (by rw [ht]; rfl)
    have hrun : (execOp a.eval o).run P w = .ok (.value v) w := by
      simp only [execOp, ho, e1, e2, Option.map_some, Option.map_none, Sem.run_bind, hr w]
      rfl
    unfold Oper.wp
    rw [hrun]
    exact h
/-- .. whose answer is a slice of bytes. -/
theorem Out8.holds {w w' : World} {l : List UInt8} {e : Ending} {c : Cl} (hc : c = .bytes l) (h : Out8 w l e w') : ∃ v, e = .returned v ∧ Below w.heap.size w w' ∧ c.holds v w' := by
  obtain ⟨A, m, k, he, hr, hb⟩ := h
  subst hc
  exact ⟨_, he, hb, A, m, k, rfl, hr⟩
/-- The obligations of a row of operations, from number i on. -/
def AllObl (P : Program) (ops : Array Oper) (tbl : List Cl) (a0 : Act) (w0 : World) (Q : Exit → Act → World → Prop) : Nat → List Oper → Prop
  | _, [] => True
  | i, o :: r => Obl P ops tbl a0 w0 Q i o ∧ AllObl P ops tbl a0 w0 Q (i + 1) r
theorem AllObl.at_ : ∀ (l : List Oper) (k : Nat), AllObl P ops tbl a0 w0 Q k l → ∀ i o, l[i]? = some o → Obl P ops tbl a0 w0 Q (k + i) o
  | [], _, _, i, o, h => by simp at h
  | x :: r, k, hA, 0, o, h => by
    simp at h
    subst h
    exact hA.1
  | x :: r, k, hA, i + 1, o, h => by
    have := AllObl.at_ r (k + 1) hA.2 i o (by simpa using h)
    rwa [Nat.add_assoc, Nat.add_comm 1 i] at this
theorem AllObl.all (h : AllObl P ops tbl a0 w0 Q 0 ops.toList) : ∀ i o, ops[i]? = some o → Obl P ops tbl a0 w0 Q i o := by
  intro i o ho
  have := AllObl.at_ ops.toList 0 h i o (by simpa using ho)
  rwa [Nat.zero_add] at this

/-- An operation that answers one value in any world that keeps what was there, and turns nothing. -/
theorem Obl.pure {P : Program} {ops : Array Oper} {tbl : List Cl} {a0 : Act} {w0 : World} {Q : Exit → Act → World → Prop} {i : Nat} {o : Oper} (hg : gOk ops tbl i o) (v : Value) (ht : tblAt tbl i = .val v)
    (hr : ∀ (ev : Operand → Value) (w : World), Below w0.heap.size w0 w → (∀ x, (clOf ops tbl a0 i x).holds (ev x) w) → (execOp ev o).run P w = .ok (.value v) w) : Obl P ops tbl a0 w0 Q i o :=
  Obl.mk hg fun a w hb hx K hK => by
    have h := hK v w (Below.refl _ _) (by rw [ht]; rfl)
    unfold Oper.wp
    rw [hr a.eval w hb hx]
    exact h
/-- A call that answers one value. -/
theorem Val.holds {w w' : World} {e : Ending} {c : Cl} {v : Value} (hc : c = .val v) (h : e = .returned v ∧ Below w.heap.size w w') : ∃ v, e = .returned v ∧ Below w.heap.size w w' ∧ c.holds v w' := by
  subst hc
  exact ⟨_, h.1, h.2, rfl⟩
theorem eql_strs (l r : List UInt8) (D : Bool) (h : (l == r) = D) (x y : Operand) (w : World) : (do eqGuard .eql 9 x y (.string ⟨l.toArray⟩) (.string ⟨r.toArray⟩); binOp .eql 9 (.string ⟨l.toArray⟩) (.string ⟨r.toArray⟩) : Sem Value).run Try.prog w = .ok (.bool D) w := by
  subst h
  simp [eqGuard, go_sem]
theorem neq_strs (l r : List UInt8) (D : Bool) (h : (l != r) = D) (x y : Operand) (w : World) : (do eqGuard .neq 9 x y (.string ⟨l.toArray⟩) (.string ⟨r.toArray⟩); binOp .neq 9 (.string ⟨l.toArray⟩) (.string ⟨r.toArray⟩) : Sem Value).run Try.prog w = .ok (.bool D) w := by
  subst h
  simp [eqGuard, go_sem, bne]
theorem drew_below (w : World) : Below w.heap.size w w.drew := (Below.refl _ w).drew

/-- Any operation that answers one value, and leaves what was there. -/
theorem Obl.act {i : Nat} {o : Oper} (hg : gOk ops tbl i o)
    (h : ∀ (ev : Operand → Value) (w : World), Below w0.heap.size w0 w → (∀ x, (clOf ops tbl a0 i x).holds (ev x) w) → ∃ v w', (execOp ev o).run P w = .ok (.value v) w' ∧ Below w.heap.size w w' ∧ (tblAt tbl i).holds v w') : Obl P ops tbl a0 w0 Q i o :=
  Obl.mk hg fun a w hb hx K hK => by
    obtain ⟨v, w', hrun, h1, h2⟩ := h a.eval w hb hx
    unfold Oper.wp
    rw [hrun]
    exact hK v w' h1 h2
theorem holds_pred {c : Cl} {p : Value → World → Prop} {st : ∀ v w w', Below w.heap.size w w' → p v w → p v w'} {v : Value} {w : World} (h : c.holds v w) (e : c = .pred p st) : p v w := by subst e; exact h
theorem Pred.holds {c : Cl} {p : Value → World → Prop} {st : ∀ v w w', Below w.heap.size w w' → p v w → p v w'} {v : Value} {w : World} (e : c = .pred p st) (h : p v w) : c.holds v w := by subst e; exact h
end Go.Proofs.Ytfijlgkgbbemnaa.RP
