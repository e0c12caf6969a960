/- A region that draws its order, where some operations write what the others keep (as RegS), and what is claimed of an operation's result may die: 'dead i j': behind operation i nobody asks for j's claim any more. No function of the program. -/
import Derived.Test.YtfijlgkgbbemnaaNo
namespace Go.Proofs.Ytfijlgkgbbemnaa
open Go.RowKit
set_option linter.unusedVariables false
set_option linter.unusedSimpArgs false
set_option maxRecDepth 20000

variable {F : Frame}
/-- Where operation i has its turn, j's claim has not died. -/
def fresh (ops : Array Oper) (dead : Nat → Nat → Bool) (i j : Nat) : Bool := (List.range ops.size).all fun k => !dead k j || i == k || depOn ops k i
theorem fresh_at {ops : Array Oper} {dead : Nat → Nat → Bool} {i j k : Nat} (h : fresh ops dead i j = true) (hk : k < ops.size) (hd : dead k j = true) : i = k ∨ depOn ops k i = true := by
  have h1 := List.all_eq_true.1 h k (List.mem_range.2 hk)
  rw [hd] at h1
  simpa using h1
def clOfD (dead : Nat → Nat → Bool) (ops : Array Oper) (tbl : List (ClF F)) (a0 : Act) (i : Nat) : Operand → ClF F
  | .tmp t => match (List.range ops.size).find? (fun j => dstOf ops j == some t) with
    | some j => if depOn ops i j then (if fresh ops dead i j then tblF tbl j else .any) else if depOn ops j i then .val (a0.tmps.getD t undef) else .any
    | none => .val (a0.tmps.getD t undef)
  | .const v => .val v
  | .global g => .val (.pointer (some ⟨g, 0, none⟩))
  | .func f => .val (.func (.func f) #[] #[])
structure RInvD (per : Nat → Value → Prop) (dead : Nat → Nat → Bool) (sp : Nat → Bool) (pre : Nat → World → Prop) (ops : Array Oper) (tbl : List (ClF F)) (a0 : Act) (w0 : World) (listed : Array Bool) (a : Act) (w : World) : Prop where
  inv : F.I w
  pre : ∀ i, sp i = true → listed.getD i true = false → pre i w
  size : a.tmps.size = a0.tmps.size
  defers : a.defers = a0.defers
  old : ∀ t, (∀ j, dstOf ops j ≠ some t) → a.tmps.getD t undef = a0.tmps.getD t undef
  vals : ∀ j, j < ops.size → listed.getD j false = true → (∀ k, k < ops.size → dead k j = true → listed.getD k false = false) → (tblF tbl j).holds (outOf ops a j) w
  perp : ∀ j, j < ops.size → listed.getD j false = true → per j (outOf ops a j)
  young : ∀ i j t, dstOf ops j = some t → depOn ops j i = true → listed.getD i true = false → a.tmps.getD t undef = a0.tmps.getD t undef

variable {per : Nat → Value → Prop} {dead : Nat → Nat → Bool} {sp : Nat → Bool} {pre : Nat → World → Prop} {P : Program} {ops : Array Oper} {tbl : List (ClF F)} {a0 : Act} {w0 : World} {Q : Exit → Act → World → Prop}
/-- What is to be shown of one operation. -/
def OblD (dead : Nat → Nat → Bool) (P : Program) (ops : Array Oper) (tbl : List (ClF F)) (a0 : Act) (w0 : World) (Q : Exit → Act → World → Prop) (i : Nat) (o : Oper) : Prop :=
  ∀ (a : Act) (w : World), F.I w → (∀ x, (clOfD dead ops tbl a0 i x).holds (a.eval x) w) →
    (∀ j u, depOn ops i j = true → (∀ k, dead k j = false) → tblF tbl j = .val u → (dstOf ops j).isSome = true → yielded ops a.tmps j = boolOf u) →
    ∀ K : Act → World → Prop, (∀ v w', F.I w' → F.Fr w w' → (tblF tbl i).holds (if o.dst.isSome then v else undef) w' → K (a.put o.dst v) w') →
      if Region.wanted o (yielded ops a.tmps) = true then Oper.wp P o a w K Q else K (a.put o.dst undef) w

/-- .. and of the one that may write what the others keep. -/
def OblDX (dead : Nat → Nat → Bool) (sp : Nat → Bool) (pre : Nat → World → Prop) (P : Program) (ops : Array Oper) (tbl : List (ClF F)) (a0 : Act) (Q : Exit → Act → World → Prop) (i : Nat) (o : Oper) : Prop :=
  ∀ (a : Act) (w : World), F.I w → pre i w → (∀ x, (clOfD dead ops tbl a0 i x).holds (a.eval x) w) → (∀ j, j < ops.size → depOn ops i j = true → fresh ops dead i j = true → (tblF tbl j).holds (outOf ops a j) w) →
    ∀ K : Act → World → Prop, (∀ v w', F.I w' → (∀ j u, j ≠ i → dead i j = false → depOn ops j i = false → (tblF tbl j).holds u w → (tblF tbl j).holds u w') → (∀ j, j ≠ i → sp j = true → depOn ops i j = false → pre j w → pre j w') → (tblF tbl i).holds (if o.dst.isSome then v else undef) w' → K (a.put o.dst v) w') →
      if Region.wanted o (yielded ops a.tmps) = true then Oper.wp P o a w K Q else K (a.put o.dst undef) w
theorem RInvD.claim {listed : Array Bool} {a : Act} {w : World} (h : RInvD per dead sp pre ops tbl a0 w0 listed a w) {i : Nat} {o : Oper} (ho : ops[i]? = some o) (hd : ∀ e ∈ o.after, Region.binds .any e = true → listed.getD e.on false = true) (hni : listed.getD i true = false) (hcl : ∀ j q, listed.getD j false = true → depOn ops j q = true → listed.getD q false = true) (x : Operand) : (clOfD dead ops tbl a0 i x).holds (a.eval x) w := by
  have hil : i < ops.size := (Array.getElem?_eq_some_iff.1 ho).1
  have hnf : listed.getD i false = true → False := fun h1 => by
    rw [Array.getD_eq_getD_getElem?] at hni h1
    cases hq : listed[i]? with
    | none => rw [hq] at hni; cases hni
    | some b =>
      rw [hq] at hni h1
      exact absurd (hni.symm.trans h1) (by decide)
  cases x with
  | tmp t =>
    simp only [clOfD]
    cases hf : (List.range ops.size).find? (fun j => dstOf ops j == some t) with
    | none =>
      simp only
      refine h.old t fun j hj => ?_
      have h1 := List.find?_eq_none.1 hf j
      have hlt : j < ops.size := by
        rcases Nat.lt_or_ge j ops.size with h' | h'
        · exact h'
        · simp [dstOf, Array.getElem?_eq_none h'] at hj
      exact h1 (List.mem_range.2 hlt) (by simp [hj])
    | some j =>
      by_cases hdep : depOn ops i j = true
      · simp only [hdep, if_true]
        by_cases hfr : fresh ops dead i j = true
        case neg =>
          simp only [hfr]
          trivial
        simp only [hfr, if_true]
        have h1 := List.find?_some hf
        have h2 := List.mem_range.1 (List.mem_of_find?_eq_some hf)
        have h3 := h.vals j h2 (dep_listed ho hd hdep) (fun k hk hdk => by
          cases hkl : listed.getD k false with
          | false => rfl
          | true =>
            rcases fresh_at hfr hk hdk with h5 | h5
            · subst h5
              exact absurd hkl (fun e => hnf e)
            · exact absurd (hcl k i hkl h5) (fun e => hnf e))
        have h4 : dstOf ops j = some t := by simpa using h1
        unfold outOf at h3
        rw [h4] at h3
        exact h3
      · by_cases hdj : depOn ops j i = true
        · simp only [hdep, hdj, if_true]
          have h1 := List.find?_some hf
          exact h.young i j t (by simpa using h1) hdj hni
        · simp only [hdep, hdj]
          trivial
  | const v => rfl
  | global g => rfl
  | func f => rfl
theorem RInvD.dep {listed : Array Bool} {a : Act} {w : World} (h : RInvD per dead sp pre ops tbl a0 w0 listed a w) {i : Nat} {o : Oper} (ho : ops[i]? = some o) (hd : ∀ e ∈ o.after, Region.binds .any e = true → listed.getD e.on false = true) (hni : listed.getD i true = false) (hcl : ∀ j q, listed.getD j false = true → depOn ops j q = true → listed.getD q false = true) (j : Nat) (hj : j < ops.size) (hdep : depOn ops i j = true) (hfr : fresh ops dead i j = true) : (tblF tbl j).holds (outOf ops a j) w := by
  have hnf : listed.getD i false = true → False := fun h1 => by
    rw [Array.getD_eq_getD_getElem?] at hni h1
    cases hq : listed[i]? with
    | none => rw [hq] at hni; cases hni
    | some b =>
      rw [hq] at hni h1
      exact absurd (hni.symm.trans h1) (by decide)
  exact h.vals j hj (dep_listed ho hd hdep) (fun k hk hdk => by
    cases hkl : listed.getD k false with
    | false => rfl
    | true =>
      rcases fresh_at hfr hk hdk with h5 | h5
      · subst h5
        exact absurd hkl (fun e => hnf e)
      · exact absurd (hcl k i hkl h5) (fun e => hnf e))
theorem RInvD.guard {listed : Array Bool} {a : Act} {w : World} (h : RInvD per dead sp pre ops tbl a0 w0 listed a w) {i : Nat} {o : Oper} (ho : ops[i]? = some o) (hd : ∀ e ∈ o.after, Region.binds .any e = true → listed.getD e.on false = true) (j : Nat) (u : Value) (hdep : depOn ops i j = true) (hal : ∀ k, dead k j = false) (ht : tblF tbl j = .val u) (hdst : (dstOf ops j).isSome = true) : yielded ops a.tmps j = boolOf u := by
  obtain ⟨d, hj⟩ := Option.isSome_iff_exists.1 hdst
  have hjlt : j < ops.size := by
    rcases Nat.lt_or_ge j ops.size with h' | h'
    · exact h'
    · simp [dstOf, Array.getElem?_eq_none h'] at hj
  have h1 := h.vals j hjlt (dep_listed ho hd hdep) (fun k _ hk => by rw [hal k] at hk; cases hk)
  rw [ht] at h1
  unfold outOf at h1
  rw [hj] at h1
  have h2 : a.tmps.getD d undef = u := h1
  have hj' : (ops[j]?).bind (·.dst) = some d := hj
  unfold yielded
  rw [hj', Option.bind_some]
  rw [Array.getD_eq_getD_getElem?] at h2
  cases hh : a.tmps[d]? with
  | none =>
    rw [hh] at h2
    subst h2
    rfl
  | some z =>
    rw [hh] at h2
    have h3 : z = u := h2
    subst h3
    cases z <;> rfl
theorem RInvD.put {listed : Array Bool} {a : Act} {w w' : World} (h : RInvD per dead sp pre ops tbl a0 w0 listed a w) {i : Nat} {o : Oper} (ht : tidy ops = true) (hls : listed.size = ops.size) (ho : ops[i]? = some o) (hd : ∀ e ∈ o.after, Region.binds .any e = true → listed.getD e.on false = true) (hin : ∀ d, o.dst = some d → d < a0.tmps.size) {v : Value}
    (hI : F.I w') (hni : listed.getD i true = false) (hcl : ∀ j q, listed.getD j false = true → depOn ops j q = true → listed.getD q false = true) (hkeep : ∀ j u, j ≠ i → dead i j = false → depOn ops j i = false → (tblF tbl j).holds u w → (tblF tbl j).holds u w') (hpre : ∀ j, j ≠ i → sp j = true → depOn ops i j = false → pre j w → pre j w') (hpv : per i (if o.dst.isSome then v else undef)) (hv : (tblF tbl i).holds (if o.dst.isSome then v else undef) w') : RInvD per dead sp pre ops tbl a0 w0 (listed.setIfInBounds i true) (a.put o.dst v) w' := by
  have hi : i < ops.size := (Array.getElem?_eq_some_iff.1 ho).1
  have hdi : dstOf ops i = o.dst := by simp [dstOf, ho]
  refine ⟨hI, fun j hsj hs => ?_, ?_, ?_, fun t hold => ?_, fun j hj hl hdd => ?_, fun j hj hl => ?_, fun i' j t hj hdep hni => ?_⟩
  · have hne : j ≠ i := fun e => by
      subst e
      rw [Array.getD_eq_getD_getElem?, Array.getElem?_setIfInBounds_self] at hs
      simp [hls, hi] at hs
    rw [Array.getD_eq_getD_getElem?, Array.getElem?_setIfInBounds_ne (fun e => hne e.symm)] at hs
    have hdn : depOn ops i j = false := by
      cases hq : depOn ops i j with
      | false => rfl
      | true =>
        have h9 := dep_listed ho hd hq
        rw [Array.getD_eq_getD_getElem?] at h9
        cases hq2 : listed[j]? with
        | none => rw [hq2] at hs; cases hs
        | some b =>
          rw [hq2] at hs h9
          exact absurd (hs.symm.trans h9) (by decide)
    refine hpre j hne hsj hdn (h.pre j hsj ?_)
    rw [Array.getD_eq_getD_getElem?]
    exact hs
  · cases hd : o.dst <;> simp [Act.put, h.size]
  · cases hd : o.dst <;> simp [Act.put, h.defers]
  · rw [getD_put_ne (by rw [← hdi]; exact hold i)]
    exact h.old t hold
  · by_cases hji : j = i
    · subst hji
      unfold outOf
      rw [hdi]
      cases hd : o.dst with
      | none =>
        rw [hd] at hv
        exact hv
      | some d =>
        rw [hd] at hv
        simp only
        rw [getD_put_eq (by rw [h.size]; exact hin d hd)]
        exact hv
    · have hl' : listed.getD j false = true := by
        rw [Array.getD_eq_getD_getElem?, Array.getElem?_setIfInBounds_ne (fun e => hji e.symm)] at hl
        rw [Array.getD_eq_getD_getElem?]
        exact hl
      have hset : ∀ k, listed.getD k false = true → (listed.setIfInBounds i true).getD k false = true := fun k hk => by
        by_cases hki : k = i
        · subst hki
          rw [Array.getD_eq_getD_getElem?, Array.getElem?_setIfInBounds_self]
          simp [hls, hi]
        · rw [Array.getD_eq_getD_getElem?, Array.getElem?_setIfInBounds_ne (fun e => hki e.symm), ← Array.getD_eq_getD_getElem?]
          exact hk
      have hdi0 : dead i j = false := by
        cases hq : dead i j with
        | false => rfl
        | true =>
          have h9 := hdd i hi hq
          rw [Array.getD_eq_getD_getElem?, Array.getElem?_setIfInBounds_self] at h9
          simp [hls, hi] at h9
      have hdj0 : depOn ops j i = false := by
        cases hq : depOn ops j i with
        | false => rfl
        | true =>
          have h9 := hcl j i hl' hq
          rw [Array.getD_eq_getD_getElem?] at hni h9
          cases hq2 : listed[i]? with
          | none => rw [hq2] at hni; cases hni
          | some b =>
            rw [hq2] at hni h9
            exact absurd (hni.symm.trans h9) (by decide)
      have hk := hkeep j _ hji hdi0 hdj0 (h.vals j hj hl' (fun k hk hdk => by
        cases hkl : listed.getD k false with
        | false => rfl
        | true =>
          have h9 := hdd k hk hdk
          rw [hset k hkl] at h9
          exact absurd h9 (by decide)))
      have e : outOf ops (a.put o.dst v) j = outOf ops a j := by
        unfold outOf
        cases hdj : dstOf ops j with
        | none => rfl
        | some d =>
          simp only
          have hne : o.dst ≠ some d := by
            rw [← hdi]
            exact tidy_dst_ne ht hj hi hji hdj
          exact getD_put_ne hne
      rw [e]
      exact hk
  · by_cases hji : j = i
    · subst hji
      unfold outOf
      rw [hdi]
      cases hd : o.dst with
      | none =>
        rw [hd] at hpv
        exact hpv
      | some d =>
        rw [hd] at hpv
        simp only
        rw [getD_put_eq (by rw [h.size]; exact hin d hd)]
        exact hpv
    · have hl' : listed.getD j false = true := by
        rw [Array.getD_eq_getD_getElem?, Array.getElem?_setIfInBounds_ne (fun e => hji e.symm)] at hl
        rw [Array.getD_eq_getD_getElem?]
        exact hl
      have e : outOf ops (a.put o.dst v) j = outOf ops a j := by
        unfold outOf
        cases hdj : dstOf ops j with
        | none => rfl
        | some d =>
          simp only
          have hne : o.dst ≠ some d := by
            rw [← hdi]
            exact tidy_dst_ne ht hj hi hji hdj
          exact getD_put_ne hne
      rw [e]
      exact h.perp j hj hl'
  · have hii : i' ≠ i := fun e => by
      subst e
      rw [Array.getD_eq_getD_getElem?, Array.getElem?_setIfInBounds_self] at hni
      simp [hls, hi] at hni
    have hni' : listed.getD i' true = false := by
      rw [Array.getD_eq_getD_getElem?, Array.getElem?_setIfInBounds_ne (fun e => hii e.symm)] at hni
      rw [Array.getD_eq_getD_getElem?]
      exact hni
    have hji : j ≠ i := fun e => by
      subst e
      have := dep_listed ho hd hdep
      rw [Array.getD_eq_getD_getElem?] at this hni'
      cases hq : listed[i']? <;> simp [hq] at this hni'
      rw [this] at hni'
      exact absurd hni' (by decide)
    have hjlt : j < ops.size := by
      rcases Nat.lt_or_ge j ops.size with h' | h'
      · exact h'
      · simp [dstOf, Array.getElem?_eq_none h'] at hj
    have hne : o.dst ≠ some t := by
      rw [← hdi]
      exact tidy_dst_ne ht hjlt hi hji hj
    rw [getD_put_ne hne]
    exact h.young i' j t hj hdep hni'
/-- THE REGION: the first m operations each once, in whatever order; then the walk goes on, in the order of the text. -/
theorem wp_region_d {id : Nat} (per : Nat → Value → Prop) (dead : Nat → Nat → Bool) (sp : Nat → Bool) (pre : Nat → World → Prop) (m : Nat) (tbl : List (ClF F)) (hper : ∀ j v W, (tblF tbl j).holds v W → per j v) (hm : P.follows .mixedOrders = true) (ht : tidy ops = true) (hord : ordered ops m = true) (hms : m ≤ ops.size) (hdst : ops.all (fun o => match o.dst with | some d => decide (d < a0.tmps.size) | none => true) = true) (hI : F.I w0.drew) (hp0 : ∀ i, sp i = true → pre i w0.drew) (hst : ∀ i a b, sp i = true → F.I a → F.Fr a b → F.I b → pre i a → pre i b)
    (hO : ∀ i o, i < m → sp i = false → ops[i]? = some o → OblD dead P ops tbl a0 w0.drew Q i o)
    (hS : ∀ i o, i < m → sp i = true → ops[i]? = some o → OblDX dead sp pre P ops tbl a0 Q i o)
    (hT : ∀ a w, F.I w → a.tmps.size = a0.tmps.size → a.defers = a0.defers → (∀ t, (∀ j, dstOf ops j ≠ some t) → a.tmps.getD t undef = a0.tmps.getD t undef) →
      (∀ j, j < m → (∀ k, dead k j = false) → (tblF tbl j).holds (outOf ops a j) w) → (∀ j, j < m → per j (outOf ops a j)) → wpList P ops Q (ops.toList.drop m) a w) :
    (Code.region id ops true).wp P Q a0 w0 := by
  refine wp_region_any hm ?_
  have key : ∀ (fuel : Nat) (listed : Array Bool) (a : Act) (w : World), listed.size = ops.size → (listed.toList.countP (fun b => !b)) ≤ fuel → RInvD per dead sp pre ops tbl a0 w0.drew listed a w →
      (∀ j i, listed.getD j false = true → depOn ops j i = true → listed.getD i false = true) → (∀ j, m ≤ j → listed.getD j false = false) → wpAny P .any ops Q fuel listed a w := by
    have done : ∀ (fuel : Nat) (listed : Array Bool) (a : Act) (w : World), listed.size = ops.size → (listed.toList.countP (fun b => !b)) ≤ fuel → RInvD per dead sp pre ops tbl a0 w0.drew listed a w → (∀ j, m ≤ j → listed.getD j false = false) →
        (∀ j, j < m → listed.getD j false = true) → wpAny P .any ops Q fuel listed a w := by
      intro fuel listed a w hls hc h hno hall
      refine tail_any ht m hord _ m fuel listed a w rfl (Nat.le_refl _) hms ?_ hls (fun j hj => ⟨fun h' => ?_, fun h' => hall j h'⟩) (hT a w h.inv h.size h.defers h.old (fun j hj hal => h.vals j (by omega) (hall j hj) (fun k _ hk => by rw [hal k] at hk; cases hk)) (fun j hj => h.perp j (by omega) (hall j hj)))
      · refine Nat.le_trans ?_ hc
        have h1 : (listed.toList.drop m).countP (fun b => !b) = ops.size - m := by
          rw [List.countP_eq_length.2 ?_]
          · simp [hls]
          · intro b hb
            obtain ⟨j, hj, rfl⟩ := List.getElem_of_mem hb
            have h2 := hno (m + j) (by omega)
            rw [List.length_drop] at hj
            have h3 : m + j < listed.size := by simp at hj; omega
            rw [Array.getD_eq_getD_getElem?] at h2
            simp [h3] at h2
            simp [h2]
        rw [← h1]
        exact List.Sublist.countP_le (List.drop_sublist m _)
      · rcases Nat.lt_or_ge j m with h1 | h1
        · exact h1
        · rw [hno j h1] at h'
          cases h'
    intro fuel
    induction fuel with
    | zero =>
      intro listed a w hls hc h hcl hno
      refine done 0 listed a w hls hc h hno fun j hj => ?_
      have h0 : listed.toList.countP (fun b => !b) = 0 := by omega
      rw [List.countP_eq_zero] at h0
      have hlt : j < listed.size := by omega
      have h2 := h0 (listed[j]) (by simp)
      rw [Array.getD_eq_getD_getElem?]
      simpa [hlt] using h2
    | succ fuel ih =>
      intro listed a w hls hc h hcl hno
      by_cases hall : ∀ j, j < m → listed.getD j false = true
      · exact done _ listed a w hls hc h hno hall
      · refine ⟨fun hr => ?_, fun i hi => ?_⟩
        · exfalso
          exact hall fun j hj => all_listed ht hls hr (j + 1) j (by omega) (by omega)
        obtain ⟨h1, o, ho, hd⟩ := mem_ready.1 hi
        have hilt : i < ops.size := (Array.getElem?_eq_some_iff.1 ho).1
        have him : i < m := by
          rcases Nat.lt_or_ge i m with h' | h'
          · exact h'
          · exfalso
            exact hall fun j hj => reach_listed hcl ops.size i j (dep_all ho hd) (ordered_at hord hilt h' (by omega))
        have hlt : i < listed.size := by omega
        have hfalse : listed[i] = false := by
          rw [Array.getD_eq_getD_getElem?] at h1
          simpa [hlt] using h1
        have hcount : (listed.setIfInBounds i true).toList.countP (fun b => !b) ≤ fuel := by
          rw [Array.toList_setIfInBounds, List.countP_set (h := by simpa using hlt)]
          rw [show listed.toList[i]'(by simpa using hlt) = false by simpa using hfalse]
          simp only [Bool.not_false, Bool.not_true, if_true, Bool.false_eq_true, if_false]
          omega
        have hin : ∀ d, o.dst = some d → d < a0.tmps.size := by
          intro d hdd
          have := Array.all_eq_true_iff_forall_mem.1 hdst o (Array.mem_of_getElem? ho)
          simpa [hdd] using this
        have hset : ∀ j, (listed.setIfInBounds i true).getD j false = true ↔ (j = i ∨ listed.getD j false = true) := fun j => by
          by_cases hji : j = i
          · subst hji
            rw [Array.getD_eq_getD_getElem?]
            simp [hlt]
          · rw [Array.getD_eq_getD_getElem?, Array.getElem?_setIfInBounds_ne (fun e => hji e.symm), ← Array.getD_eq_getD_getElem?]
            simp [hji]
        have hcl' : ∀ j q, (listed.setIfInBounds i true).getD j false = true → depOn ops j q = true → (listed.setIfInBounds i true).getD q false = true := fun j q hj hq => by
          rw [hset] at hj ⊢
          rcases hj with hj | hj
          · subst hj
            exact .inr (dep_all ho hd q hq)
          · exact .inr (hcl j q hj hq)
        have hno' : ∀ j, m ≤ j → (listed.setIfInBounds i true).getD j false = false := fun j hj => by
          rw [Array.getD_eq_getD_getElem?, Array.getElem?_setIfInBounds_ne (by omega), ← Array.getD_eq_getD_getElem?]
          exact hno j hj
        refine wpOp_step ho fun K hK => ?_
        cases his : sp i with
        | true => exact hS i o him his ho a w h.inv (h.pre i his h1) (fun x => h.claim ho hd h1 hcl x) (h.dep ho hd h1 hcl) K (fun v w' hI' hk hp' hv => hK _ _ (ih _ _ _ (by simp [hls]) hcount (h.put ht hls ho hd hin hI' h1 hcl hk hp' (hper i _ _ hv) hv) hcl' hno'))
        | false => exact hO i o him his ho a w h.inv (fun x => h.claim ho hd h1 hcl x) (fun j b hdep hal hj hs => h.guard ho hd j b hdep hal hj hs) K (fun v w' hI' hb hv => hK _ _ (ih _ _ _ (by simp [hls]) hcount (h.put ht hls ho hd hin hI' h1 hcl (fun j u _ _ _ hu => ClF.keep hu h.inv hb hI') (fun j _ hsj _ hp => hst j _ _ hsj h.inv hb hI' hp) (hper i _ _ hv) hv) hcl' hno'))
  have hnone : ∀ j, (Array.replicate ops.size false).getD j false = false := fun j => by
    rw [Array.getD_eq_getD_getElem?]
    by_cases hj : j < ops.size
    · simp [hj]
    · simp [hj]
  exact key ops.size _ a0 _ (by simp) (by have := List.countP_le_length (p := fun b => !b) (l := List.replicate ops.size false); simpa using this) ⟨hI, fun i hs _ => hp0 i hs, rfl, rfl, fun _ _ => rfl, fun j hj hl _ => (by rw [hnone j] at hl; exact Bool.noConfusion hl), fun j hj hl => (by rw [hnone j] at hl; exact Bool.noConfusion hl), fun _ _ _ _ _ _ => rfl⟩ (fun j i hj => by rw [hnone j] at hj; cases hj) (fun j _ => hnone j)
/-! ### The obligations, by kind of operation (no guard) -/
theorem OblD.step {i : Nat} {o : Oper} (hg : o.guard = none)
    (h : ∀ (ev : Operand → Value) (w : World), F.I w → (∀ x, (clOfD dead ops tbl a0 i x).holds (ev x) w) → ∃ v w', (execOp ev o).run P w = .ok (.value v) w' ∧ F.I w' ∧ F.Fr w w' ∧ (tblF tbl i).holds (if o.dst.isSome then v else undef) w') : OblD dead P ops tbl a0 w0 Q i o := by
  intro a w hI hx hy K hK
  have hw : Region.wanted o (yielded ops a.tmps) = true := by
    unfold Region.wanted
    rw [hg]
  rw [if_pos hw]
  obtain ⟨v, w', hrun, h1, h2, h3⟩ := h a.eval w hI hx
  unfold Oper.wp
  rw [hrun]
  exact hK v w' h1 h2 h3
/-- A store: it yields nothing. -/
theorem OblD.store {i : Nat} {o : Oper} (hg : o.guard = none) (hds : o.dst = none)
    (h : ∀ (ev : Operand → Value) (w : World), F.I w → (∀ x, (clOfD dead ops tbl a0 i x).holds (ev x) w) → ∃ w', (execOp ev o).run P w = .ok .skip w' ∧ F.I w' ∧ F.Fr w w' ∧ (tblF tbl i).holds undef w') : OblD dead P ops tbl a0 w0 Q i o := by
  intro a w hI hx hy K hK
  have hw : Region.wanted o (yielded ops a.tmps) = true := by
    unfold Region.wanted
    rw [hg]
  rw [if_pos hw]
  obtain ⟨w', hrun, h1, h2, h3⟩ := h a.eval w hI hx
  unfold Oper.wp
  rw [hrun]
  exact hK undef w' h1 h2 (by rw [hds]; exact h3)
theorem OblD.call {i : Nat} {o : Oper} (hg : o.guard = none) (f : FuncId) (args : Array Operand) (tys : Array TypeId) (ho : o.op = .call { callee := .value (.func f), args := args, argTypes := tys })
    (fn : Func) (hf : P.funcs[f]? = some fn) (hname : (fn.name == "runtime.NumGoroutine") = false) (hbody : fn.body.isSome = true) (hds : o.dst.isSome = true)
    (hc : ∀ (ev : Operand → Value) (w : World), F.I w → (∀ x, (clOfD dead ops tbl a0 i x).holds (ev x) w) → Calls P f (args.map ev) w fun e w' => ∃ v, e = .returned v ∧ F.I w' ∧ F.Fr w w' ∧ (tblF tbl i).holds v w') : OblD dead P ops tbl a0 w0 Q i o := by
  intro a w hI hx hy K hK
  have hw : Region.wanted o (yielded ops a.tmps) = true := by
    unfold Region.wanted
    rw [hg]
  rw [if_pos hw]
  obtain ⟨c, hc'⟩ := Option.isSome_iff_exists.1 hbody
  have h1 : fn.name ≠ "runtime.NumGoroutine" := by simpa using hname
  have hrun : (execOp a.eval o).run P w = .ok (.enter f (args.map a.eval)) w := by
    simp [execOp, ho, resolve, Act.eval, Deferred.ofValue, invoke, callFunc, hf, h1, hc']
  unfold Oper.wp
  rw [hrun]
  exact (hc a.eval w hI hx).mono fun e w' ⟨v, he, h1, h2, h3⟩ => by subst he; exact hK v w' h1 h2 (by rw [if_pos hds]; exact h3)
/-- An operation that leaves the world alone and yields what is claimed as a value. -/
theorem OblD.pure {i : Nat} {o : Oper} (hg : o.guard = none) (v : Value) (ht : tblF tbl i = .val v) (hds : o.dst.isSome = true)
    (h : ∀ (ev : Operand → Value) (w : World), F.I w → (∀ x, (clOfD dead ops tbl a0 i x).holds (ev x) w) → (execOp ev o).run P w = .ok (.value v) w) : OblD dead P ops tbl a0 w0 Q i o :=
  OblD.step hg fun ev w hI hx => ⟨v, w, h ev w hI hx, hI, F.refl _ hI, by rw [if_pos hds, ht]; rfl⟩
theorem OblD.move {i : Nat} {o : Oper} (hg : o.guard = none) (x : Operand) (ho : o.op = .move x ∨ o.op = .assign x) (ht : tblF tbl i = clOfD dead ops tbl a0 i x) (hds : o.dst.isSome = true) : OblD dead P ops tbl a0 w0 Q i o :=
  OblD.step hg fun ev w hI hx => ⟨ev x, w, by rcases ho with ho | ho <;> (unfold execOp; rw [ho]; rfl), hI, F.refl _ hI, by rw [if_pos hds, ht]; exact hx x⟩
theorem OblDX.step {i : Nat} {o : Oper} (hg : o.guard = none)
    (h : ∀ (ev : Operand → Value) (w : World), F.I w → pre i w → (∀ x, (clOfD dead ops tbl a0 i x).holds (ev x) w) → ∃ v w', (execOp ev o).run P w = .ok (.value v) w' ∧ F.I w' ∧ (∀ j u, j ≠ i → dead i j = false → depOn ops j i = false → (tblF tbl j).holds u w → (tblF tbl j).holds u w') ∧ (∀ j, j ≠ i → sp j = true → depOn ops i j = false → pre j w → pre j w') ∧ (tblF tbl i).holds (if o.dst.isSome then v else undef) w') : OblDX dead sp pre P ops tbl a0 Q i o := by
  intro a w hI hp hx hdp K hK
  have hw : Region.wanted o (yielded ops a.tmps) = true := by
    unfold Region.wanted
    rw [hg]
  rw [if_pos hw]
  obtain ⟨v, w', hrun, h1, h2, h3, h4⟩ := h a.eval w hI hp hx
  unfold Oper.wp
  rw [hrun]
  exact hK v w' h1 h2 h3 h4
theorem OblDX.callD {i : Nat} {o : Oper} (hg : o.guard = none) (f : FuncId) (args : Array Operand) (tys : Array TypeId) (ho : o.op = .call { callee := .value (.func f), args := args, argTypes := tys })
    (fn : Func) (hf : P.funcs[f]? = some fn) (hname : (fn.name == "runtime.NumGoroutine") = false) (hbody : fn.body.isSome = true) (hds : o.dst.isSome = true)
    (hc : ∀ (a : Act) (w : World), F.I w → pre i w → (∀ x, (clOfD dead ops tbl a0 i x).holds (a.eval x) w) → (∀ j, j < ops.size → depOn ops i j = true → fresh ops dead i j = true → (tblF tbl j).holds (outOf ops a j) w) → Calls P f (args.map a.eval) w fun e w' => ∃ v, e = .returned v ∧ F.I w' ∧ (∀ j u, j ≠ i → dead i j = false → depOn ops j i = false → (tblF tbl j).holds u w → (tblF tbl j).holds u w') ∧ (∀ j, j ≠ i → sp j = true → depOn ops i j = false → pre j w → pre j w') ∧ (tblF tbl i).holds v w') : OblDX dead sp pre P ops tbl a0 Q i o := by
  intro a w hI hp hx hdp K hK
  have hw : Region.wanted o (yielded ops a.tmps) = true := by
    unfold Region.wanted
    rw [hg]
  rw [if_pos hw]
  obtain ⟨c, hc'⟩ := Option.isSome_iff_exists.1 hbody
  have h1 : fn.name ≠ "runtime.NumGoroutine" := by simpa using hname
  have hrun : (execOp a.eval o).run P w = .ok (.enter f (args.map a.eval)) w := by
    simp [execOp, ho, resolve, Act.eval, Deferred.ofValue, invoke, callFunc, hf, h1, hc']
  unfold Oper.wp
  rw [hrun]
  exact (hc a w hI hp hx hdp).mono fun e w' ⟨v, he, h1, h2, h3, h4⟩ => by subst he; exact hK v w' h1 h2 h3 (by rw [if_pos hds]; exact h4)
theorem OblDX.call {i : Nat} {o : Oper} (hg : o.guard = none) (f : FuncId) (args : Array Operand) (tys : Array TypeId) (ho : o.op = .call { callee := .value (.func f), args := args, argTypes := tys })
    (fn : Func) (hf : P.funcs[f]? = some fn) (hname : (fn.name == "runtime.NumGoroutine") = false) (hbody : fn.body.isSome = true) (hds : o.dst.isSome = true)
    (hc : ∀ (ev : Operand → Value) (w : World), F.I w → pre i w → (∀ x, (clOfD dead ops tbl a0 i x).holds (ev x) w) → Calls P f (args.map ev) w fun e w' => ∃ v, e = .returned v ∧ F.I w' ∧ (∀ j u, j ≠ i → dead i j = false → depOn ops j i = false → (tblF tbl j).holds u w → (tblF tbl j).holds u w') ∧ (∀ j, j ≠ i → sp j = true → depOn ops i j = false → pre j w → pre j w') ∧ (tblF tbl i).holds v w') : OblDX dead sp pre P ops tbl a0 Q i o := by
  intro a w hI hp hx hdp K hK
  have hw : Region.wanted o (yielded ops a.tmps) = true := by
    unfold Region.wanted
    rw [hg]
  rw [if_pos hw]
  obtain ⟨c, hc'⟩ := Option.isSome_iff_exists.1 hbody
  have h1 : fn.name ≠ "runtime.NumGoroutine" := by simpa using hname
  have hrun : (execOp a.eval o).run P w = .ok (.enter f (args.map a.eval)) w := by
    simp [execOp, ho, resolve, Act.eval, Deferred.ofValue, invoke, callFunc, hf, h1, hc']
  unfold Oper.wp
  rw [hrun]
  exact (hc a.eval w hI hp hx).mono fun e w' ⟨v, he, h1, h2, h3, h4⟩ => by subst he; exact hK v w' h1 h2 h3 (by rw [if_pos hds]; exact h4)
def AllOblD (dead : Nat → Nat → Bool) (sp : Nat → Bool) (P : Program) (ops : Array Oper) (tbl : List (ClF F)) (a0 : Act) (w0 : World) (Q : Exit → Act → World → Prop) : Nat → List Oper → Prop
  | _, [] => True
  | i, o :: r => (sp i = false → OblD dead P ops tbl a0 w0 Q i o) ∧ AllOblD dead sp P ops tbl a0 w0 Q (i + 1) r
theorem AllOblD.at_ : ∀ (l : List Oper) (k : Nat), AllOblD dead sp P ops tbl a0 w0 Q k l → ∀ i o, l[i]? = some o → sp (k + i) = false → OblD dead P ops tbl a0 w0 Q (k + i) o
  | [], _, _, i, o, h, _ => by simp at h
  | x :: r, k, hA, 0, o, h, hne => by
    simp at h
    subst h
    exact hA.1 hne
  | x :: r, k, hA, i + 1, o, h, hne => by
    have := AllOblD.at_ r (k + 1) hA.2 i o (by simpa using h) (by rw [Nat.add_assoc, Nat.add_comm 1 i]; exact hne)
    rwa [Nat.add_assoc, Nat.add_comm 1 i] at this
theorem AllOblD.upto {m : Nat} (h : AllOblD dead sp P ops tbl a0 w0 Q 0 (ops.toList.take m)) : ∀ i o, i < m → sp i = false → ops[i]? = some o → OblD dead P ops tbl a0 w0 Q i o := by
  intro i o hi hne ho
  have := AllOblD.at_ (ops.toList.take m) 0 h i o (by rw [List.getElem?_take, if_pos hi]; simpa using ho) (by rw [Nat.zero_add]; exact hne)
  rwa [Nat.zero_add] at this
end Go.Proofs.Ytfijlgkgbbemnaa
