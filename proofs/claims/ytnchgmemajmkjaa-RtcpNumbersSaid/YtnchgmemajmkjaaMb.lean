/- Contract: rtcp.own. Contracts: rtcp.wrongTuple; slices.IndexFunc, ContainsFunc with it, and with rtcp.wrongNumber. Contract: rtcp.fits. -/
import Derived.Test.YtnchgmemajmkjaaRcZ
import Derived.Test.YtnchgmemajmkjaaRcS
import Derived.Test.YtnchgmemajmkjaaPcA
import Derived.Test.YtnchgmemajmkjaaMk
import Derived.Test.YtnchgmemajmkjaaRcT
import Derived.Shelf.Abstract
import Derived.Test.YtnchgmemajmkjaaRcO
namespace Go.Proofs.Ytnchgmemajmkjaa
open Go.RowKit
set_option linter.unusedVariables false
set_option linter.unusedSimpArgs false
set_option maxRecDepth 20000

/-- A report with those of its fields alone that its kind has. -/
def Rep.own (r : Rep) : Rep :=
  if r.kind = 1 ∨ r.kind = 2 then ⟨r.kind, r.src, 0, r.tups, [], [], 0, 0, 0, []⟩
  else if r.kind = 3 then ⟨r.kind, r.src, r.about, [], [], [], 0, 0, 0, []⟩
  else if r.kind = 4 then ⟨r.kind, r.src, 0, [], r.abouts, r.nums, 0, 0, 0, []⟩
  else if r.kind = 5 then ⟨r.kind, r.src, 0, [], r.abouts, [], r.rate, 0, 0, []⟩
  else ⟨r.kind, 0, 0, [], [], [], 0, r.ty, r.count, r.body⟩
def OwnOf (w : World) (r : Rep) (e : Ending) (w' : World) : Prop := ∃ x : Rv, e = .returned x.val ∧ x.r = r ∧ IsR w' w'.heap.size x ∧ Below w.heap.size w w'
set_option maxHeartbeats 1000000 in
theorem own_1 (src about rate : Nat) (ty count : Int) (At Aa An Ab : Option Addr) (nt na nn nb ct ca cn cb : Nat) (w : World) :
    Calls Try.prog 47 #[.agg #[.int .i64 1, .int .u32 (src : Int), .int .u32 (about : Int), .slice At nt ct, .slice Aa na ca, .slice An nn cn, .int .u64 (rate : Int), .int .i64 ty, .int .i64 count, .slice Ab nb cb]] w (AnsW (.agg #[.int .i64 1, .int .u32 (src : Int), .int .u32 0, .slice At nt ct, .slice none 0 0, .slice none 0 0, .int .u64 0, .int .i64 0, .int .i64 0, .slice none 0 0]) w) := by
  go_enter Try.func47, Try.ntmps47
  go_wp2_with fail
  refine bodyPost_ret (v := .agg #[.int .i64 1, .int .u32 (src : Int), .int .u32 0, .slice At nt ct, .slice none 0 0, .slice none 0 0, .int .u64 0, .int .i64 0, .int .i64 0, .slice none 0 0]) (by simp [results, Try.results47, go_sem]) rfl ?_
  exact ⟨rfl, ((Below.refl _ w).alloc (Nat.le_refl _) _).alloc (by simp) _⟩
set_option maxHeartbeats 1000000 in
theorem own_2 (src about rate : Nat) (ty count : Int) (At Aa An Ab : Option Addr) (nt na nn nb ct ca cn cb : Nat) (w : World) :
    Calls Try.prog 47 #[.agg #[.int .i64 2, .int .u32 (src : Int), .int .u32 (about : Int), .slice At nt ct, .slice Aa na ca, .slice An nn cn, .int .u64 (rate : Int), .int .i64 ty, .int .i64 count, .slice Ab nb cb]] w (AnsW (.agg #[.int .i64 2, .int .u32 (src : Int), .int .u32 0, .slice At nt ct, .slice none 0 0, .slice none 0 0, .int .u64 0, .int .i64 0, .int .i64 0, .slice none 0 0]) w) := by
  go_enter Try.func47, Try.ntmps47
  go_wp2_with fail
  refine bodyPost_ret (v := .agg #[.int .i64 2, .int .u32 (src : Int), .int .u32 0, .slice At nt ct, .slice none 0 0, .slice none 0 0, .int .u64 0, .int .i64 0, .int .i64 0, .slice none 0 0]) (by simp [results, Try.results47, go_sem]) rfl ?_
  exact ⟨rfl, ((Below.refl _ w).alloc (Nat.le_refl _) _).alloc (by simp) _⟩
set_option maxHeartbeats 1000000 in
theorem own_3 (src about rate : Nat) (ty count : Int) (At Aa An Ab : Option Addr) (nt na nn nb ct ca cn cb : Nat) (w : World) :
    Calls Try.prog 47 #[.agg #[.int .i64 3, .int .u32 (src : Int), .int .u32 (about : Int), .slice At nt ct, .slice Aa na ca, .slice An nn cn, .int .u64 (rate : Int), .int .i64 ty, .int .i64 count, .slice Ab nb cb]] w (AnsW (.agg #[.int .i64 3, .int .u32 (src : Int), .int .u32 (about : Int), .slice none 0 0, .slice none 0 0, .slice none 0 0, .int .u64 0, .int .i64 0, .int .i64 0, .slice none 0 0]) w) := by
  go_enter Try.func47, Try.ntmps47
  go_wp2_with fail
  refine bodyPost_ret (v := .agg #[.int .i64 3, .int .u32 (src : Int), .int .u32 (about : Int), .slice none 0 0, .slice none 0 0, .slice none 0 0, .int .u64 0, .int .i64 0, .int .i64 0, .slice none 0 0]) (by simp [results, Try.results47, go_sem]) rfl ?_
  exact ⟨rfl, ((Below.refl _ w).alloc (Nat.le_refl _) _).alloc (by simp) _⟩
set_option maxHeartbeats 1000000 in
theorem own_4 (src about rate : Nat) (ty count : Int) (At Aa An Ab : Option Addr) (nt na nn nb ct ca cn cb : Nat) (w : World) :
    Calls Try.prog 47 #[.agg #[.int .i64 4, .int .u32 (src : Int), .int .u32 (about : Int), .slice At nt ct, .slice Aa na ca, .slice An nn cn, .int .u64 (rate : Int), .int .i64 ty, .int .i64 count, .slice Ab nb cb]] w (AnsW (.agg #[.int .i64 4, .int .u32 (src : Int), .int .u32 0, .slice none 0 0, .slice Aa na ca, .slice An nn cn, .int .u64 0, .int .i64 0, .int .i64 0, .slice none 0 0]) w) := by
  go_enter Try.func47, Try.ntmps47
  go_wp2_with fail
  refine bodyPost_ret (v := .agg #[.int .i64 4, .int .u32 (src : Int), .int .u32 0, .slice none 0 0, .slice Aa na ca, .slice An nn cn, .int .u64 0, .int .i64 0, .int .i64 0, .slice none 0 0]) (by simp [results, Try.results47, go_sem]) rfl ?_
  exact ⟨rfl, ((Below.refl _ w).alloc (Nat.le_refl _) _).alloc (by simp) _⟩
set_option maxHeartbeats 1000000 in
theorem own_5 (src about rate : Nat) (ty count : Int) (At Aa An Ab : Option Addr) (nt na nn nb ct ca cn cb : Nat) (w : World) :
    Calls Try.prog 47 #[.agg #[.int .i64 5, .int .u32 (src : Int), .int .u32 (about : Int), .slice At nt ct, .slice Aa na ca, .slice An nn cn, .int .u64 (rate : Int), .int .i64 ty, .int .i64 count, .slice Ab nb cb]] w (AnsW (.agg #[.int .i64 5, .int .u32 (src : Int), .int .u32 0, .slice none 0 0, .slice Aa na ca, .slice none 0 0, .int .u64 (rate : Int), .int .i64 0, .int .i64 0, .slice none 0 0]) w) := by
  go_enter Try.func47, Try.ntmps47
  go_wp2_with fail
  refine bodyPost_ret (v := .agg #[.int .i64 5, .int .u32 (src : Int), .int .u32 0, .slice none 0 0, .slice Aa na ca, .slice none 0 0, .int .u64 (rate : Int), .int .i64 0, .int .i64 0, .slice none 0 0]) (by simp [results, Try.results47, go_sem]) rfl ?_
  exact ⟨rfl, ((Below.refl _ w).alloc (Nat.le_refl _) _).alloc (by simp) _⟩
set_option maxHeartbeats 1000000 in
theorem own_6 (src about rate : Nat) (ty count : Int) (At Aa An Ab : Option Addr) (nt na nn nb ct ca cn cb : Nat) (w : World) :
    Calls Try.prog 47 #[.agg #[.int .i64 6, .int .u32 (src : Int), .int .u32 (about : Int), .slice At nt ct, .slice Aa na ca, .slice An nn cn, .int .u64 (rate : Int), .int .i64 ty, .int .i64 count, .slice Ab nb cb]] w (AnsW (.agg #[.int .i64 6, .int .u32 0, .int .u32 0, .slice none 0 0, .slice none 0 0, .slice none 0 0, .int .u64 0, .int .i64 ty, .int .i64 count, .slice Ab nb cb]) w) := by
  go_enter Try.func47, Try.ntmps47
  go_wp2_with fail
  refine bodyPost_ret (v := .agg #[.int .i64 6, .int .u32 0, .int .u32 0, .slice none 0 0, .slice none 0 0, .slice none 0 0, .int .u64 0, .int .i64 ty, .int .i64 count, .slice Ab nb cb]) (by simp [results, Try.results47, go_sem]) rfl ?_
  exact ⟨rfl, ((Below.refl _ w).alloc (Nat.le_refl _) _).alloc (by simp) _⟩
theorem own_any (x : Rv) (w : World) (hx : IsR w w.heap.size x) (hk : 1 ≤ x.r.kind ∧ x.r.kind ≤ 6) : Calls Try.prog 47 #[x.val] w (OwnOf w x.r.own) := by
  obtain ⟨⟨kind, src, about, tups, abouts, nums, rate, ty, count, body⟩, At, ct, Aa, ca, An, cn, Ab, cb⟩ := x
  obtain ⟨t1, t2, t3, t4, kinds⟩ := hx
  obtain ⟨h1, h2, h3, h4, h5, h6, h7, h8, h9, h10⟩ := kinds
  simp only at hk h1 h2 h3 h4 h5 h6 h7 h8 h9 h10 t1 t2 t3 t4
  have hc : kind = 1 ∨ kind = 2 ∨ kind = 3 ∨ kind = 4 ∨ kind = 5 ∨ kind = 6 := by omega
  rcases hc with rfl | rfl | rfl | rfl | rfl | rfl
  · refine (own_1 src about rate ty count At Aa An Ab tups.length abouts.length nums.length body.length ct ca cn cb w).mono ?_
    rintro e w' ⟨rfl, b⟩
    exact ⟨⟨⟨1, src, 0, tups, [], [], 0, 0, 0, []⟩, At, ct, none, 0, none, 0, none, 0⟩, rfl, rfl, ⟨t1.on b, R32.nil _ _ _ _, RN.nil _ _ _ _, R8.nil _ _ _ _, ⟨h1, h2, by simp, by simp, i64_small (by simp), i64_small (by simp), h7, by simp, by simp, by simp⟩⟩, b⟩
  · refine (own_2 src about rate ty count At Aa An Ab tups.length abouts.length nums.length body.length ct ca cn cb w).mono ?_
    rintro e w' ⟨rfl, b⟩
    exact ⟨⟨⟨2, src, 0, tups, [], [], 0, 0, 0, []⟩, At, ct, none, 0, none, 0, none, 0⟩, rfl, rfl, ⟨t1.on b, R32.nil _ _ _ _, RN.nil _ _ _ _, R8.nil _ _ _ _, ⟨h1, h2, by simp, by simp, i64_small (by simp), i64_small (by simp), h7, by simp, by simp, by simp⟩⟩, b⟩
  · refine (own_3 src about rate ty count At Aa An Ab tups.length abouts.length nums.length body.length ct ca cn cb w).mono ?_
    rintro e w' ⟨rfl, b⟩
    exact ⟨⟨⟨3, src, about, [], [], [], 0, 0, 0, []⟩, none, 0, none, 0, none, 0, none, 0⟩, rfl, rfl, ⟨RT.nil _ _ _ _, R32.nil _ _ _ _, RN.nil _ _ _ _, R8.nil _ _ _ _, ⟨h1, h2, h3, by simp, i64_small (by simp), i64_small (by simp), by simp, by simp, by simp, by simp⟩⟩, b⟩
  · refine (own_4 src about rate ty count At Aa An Ab tups.length abouts.length nums.length body.length ct ca cn cb w).mono ?_
    rintro e w' ⟨rfl, b⟩
    exact ⟨⟨⟨4, src, 0, [], abouts, nums, 0, 0, 0, []⟩, none, 0, Aa, ca, An, cn, none, 0⟩, rfl, rfl, ⟨RT.nil _ _ _ _, t2.on b, t3.on b, R8.nil _ _ _ _, ⟨h1, h2, by simp, by simp, i64_small (by simp), i64_small (by simp), by simp, h8, h9, by simp⟩⟩, b⟩
  · refine (own_5 src about rate ty count At Aa An Ab tups.length abouts.length nums.length body.length ct ca cn cb w).mono ?_
    rintro e w' ⟨rfl, b⟩
    exact ⟨⟨⟨5, src, 0, [], abouts, [], rate, 0, 0, []⟩, none, 0, Aa, ca, none, 0, none, 0⟩, rfl, rfl, ⟨RT.nil _ _ _ _, t2.on b, RN.nil _ _ _ _, R8.nil _ _ _ _, ⟨h1, h2, by simp, h4, i64_small (by simp), i64_small (by simp), by simp, h8, by simp, by simp⟩⟩, b⟩
  · refine (own_6 src about rate ty count At Aa An Ab tups.length abouts.length nums.length body.length ct ca cn cb w).mono ?_
    rintro e w' ⟨rfl, b⟩
    exact ⟨⟨⟨6, 0, 0, [], [], [], 0, ty, count, body⟩, none, 0, none, 0, none, 0, Ab, cb⟩, rfl, rfl, ⟨RT.nil _ _ _ _, R32.nil _ _ _ _, RN.nil _ _ _ _, t4.on b, ⟨h1, by simp, by simp, by simp, h5, h6, by simp, by simp, by simp, h10⟩⟩, b⟩
theorem own_bare {r : Rep} (hk : 1 ≤ r.kind ∧ r.kind ≤ 6) : decide (r = r.own) = r.bare := by
  obtain ⟨kind, src, about, tups, abouts, nums, rate, ty, count, body⟩ := r
  simp only at hk
  have hc : kind = 1 ∨ kind = 2 ∨ kind = 3 ∨ kind = 4 ∨ kind = 5 ∨ kind = 6 := by omega
  have q1 : decide (tups.length = 0) = decide (tups = []) := by simp
  rw [Bool.eq_iff_iff]
  rcases hc with rfl | rfl | rfl | rfl | rfl | rfl <;> simp [Rep.own, Rep.bare, List.length_eq_zero_iff] <;> try (constructor <;> (rintro h; simp_all))
end Go.Proofs.Ytnchgmemajmkjaa
namespace Go.Proofs.Ytnchgmemajmkjaa
open Go.RowKit
set_option linter.unusedVariables false
set_option linter.unusedSimpArgs false
set_option maxRecDepth 20000

set_option maxHeartbeats 1000000 in
theorem wrongTuple_any (t : Tup) (w : World) (ht : t.In) : Calls Try.prog 74 #[.agg #[.int .u32 (t.owner : Int), .int .u64 (t.rate : Int), .int .i64 t.over]] w (AnsW (.bool (!t.ok)) w) := by
  have hdn : ∀ W, Calls Try.prog 77 #[.int .u64 (t.rate : Int), .int .i64 17] W fun e w' => e = .returned (.int .u64 (dnR t.rate 17 : Int)) ∧ w' = W := fun W => (rate_down_s t.rate 17 W ht.rate).mono fun _ _ h => ⟨h.1, h.2.symm⟩
  have e17 := dnR_in ht.rate (bits := 17) (by omega)
  have ok : t.ok = !(decide (t.over < 0) || (decide (511 < t.over) || decide (dnR t.rate 17 ≠ t.rate))) := by rw [e17]; rfl
  generalize dnR t.rate 17 = D at hdn ok
  have OK := Lib.hid ok
  have hb0 := (Below.refl w.heap.size w).alloc (Nat.le_refl _) (.cells #[.int .u32 (t.owner : Int), .int .u64 (t.rate : Int), .int .i64 t.over] 57)
  clear ok e17 ht
  by_cases o1 : t.over < 0
  · rw [show t.ok = false by rw [OK.out]; simp [o1]]
    have g1 : decide (t.over < 0) = true := by simpa using o1
    clear OK o1
    go_enter Try.func74, Try.ntmps74
    go_wp2_with fail
    go_quiet ((go_at_call 77; refine Calls.quiet_of_same (hdn _)))
    go_wp2_with fail
    go_ret
    exact ⟨rfl, hb0.trans ((below_drewN _ _ nq).mono hb0.size)⟩
  have g1 : decide (t.over < 0) = false := by simpa using o1
  by_cases o2 : 511 < t.over
  · rw [show t.ok = false by rw [OK.out]; simp [o2]]
    have g2 : decide (511 < t.over) = true := by simpa using o2
    clear OK o1 o2
    go_enter Try.func74, Try.ntmps74
    go_wp2_with fail
    go_quiet ((go_at_call 77; refine Calls.quiet_of_same (hdn _)))
    go_wp2_with fail
    go_ret
    exact ⟨rfl, hb0.trans ((below_drewN _ _ nq).mono hb0.size)⟩
  have g2 : decide (511 < t.over) = false := by simpa using o2
  by_cases o3 : D = t.rate
  · rw [show t.ok = true by rw [OK.out]; simp [o1, o2, o3]]
    have g3 : ((t.rate : Int) != (D : Int)) = false := by simp; omega
    clear OK o1 o2 o3
    go_enter Try.func74, Try.ntmps74
    go_wp2_with fail
    go_quiet ((go_at_call 77; refine Calls.quiet_of_same (hdn _)))
    go_wp2_with fail
    go_ret
    exact ⟨rfl, hb0.trans ((below_drewN _ _ nq).mono hb0.size)⟩
  · rw [show t.ok = false by rw [OK.out]; simp [o3]]
    have g3 : ((t.rate : Int) != (D : Int)) = true := by simp; omega
    clear OK o1 o2 o3
    go_enter Try.func74, Try.ntmps74
    go_wp2_with fail
    go_quiet ((go_at_call 77; refine Calls.quiet_of_same (hdn _)))
    go_wp2_with fail
    go_ret
    exact ⟨rfl, hb0.trans ((below_drewN _ _ nq).mono hb0.size)⟩
def idxI {α : Type} (p : α → Bool) (l : List α) : Int := match l.findIdx? p with
  | some k => (k : Int)
  | none => -1
theorem idxI_hit {α : Type} {p : α → Bool} {l : List α} {q : Nat} (hq : q < l.length) (h : (l.take q).all (fun x => !p x) = true) (hp : p l[q] = true) : idxI p l = (q : Int) := by
  have e : l.findIdx? p = some q := by
    rw [List.findIdx?_eq_some_iff_getElem]
    refine ⟨hq, hp, fun j hj => ?_⟩
    have := List.all_eq_true.1 h l[j] (by rw [List.mem_take_iff_getElem]; exact ⟨j, by omega, rfl⟩)
    simpa using this
  unfold idxI
  rw [e]
theorem idxI_miss {α : Type} {p : α → Bool} {l : List α} (h : l.all (fun x => !p x) = true) : idxI p l = -1 := by
  have e : l.findIdx? p = none := by
    rw [List.findIdx?_eq_none_iff]
    intro x hx
    have := List.all_eq_true.1 h x hx
    simpa using this
  unfold idxI
  rw [e]
theorem idxI_neg {α : Type} (p : α → Bool) (l : List α) : decide (0 ≤ idxI p l) = !l.all (fun x => !p x) := by
  unfold idxI
  rcases h : l.findIdx? p with _ | k
  · rw [List.findIdx?_eq_none_iff] at h
    have : l.all (fun x => !p x) = true := by
      rw [List.all_eq_true]
      intro x hx
      simp [h x hx]
    rw [this]
    rfl
  · rw [List.findIdx?_eq_some_iff_getElem] at h
    obtain ⟨h1, h2, _⟩ := h
    have : l.all (fun x => !p x) = false := by
      rw [List.all_eq_false]
      exact ⟨_, List.getElem_mem h1, by simp [h2]⟩
    rw [this]
    simp
theorem all_snoc {α : Type} {p : α → Bool} {l : List α} {q : Nat} (hq : q < l.length) (h : (l.take q).all p = true) (hp : p l[q] = true) : (l.take (q + 1)).all p = true := by
  rw [List.take_add_one, List.getElem?_eq_getElem hq, List.all_append, h]
  simp [hp]
set_option maxHeartbeats 1000000 in
theorem idx_tuples (A : Option Addr) (n c : Nat) (l : List Tup) (w : World) (h : RT w w.heap.size A n c l) (hn : n ≤ 140737488355328) :
    Calls Try.prog 84 #[.slice A n c, .func (.func 74) #[] #[]] w (AnsW (.int .i64 (idxI (fun t => !Tup.ok t) l)) w) := by
  have eg : ∀ args w, (callFunc 74 args).run Try.prog w = .ok (.enter 74 args) w := enters_of Try.func74 (by kernel_rfl) rfl
  have hL := Lib.hid h.1
  go_enter Try.func84, Try.ntmps84
  go_wp2_with fail
  go_loopw [5, 8] (fun _ i wr => ∃ q : Nat, q ≤ n ∧ i = .int .i64 (q : Int) ∧ (l.take q).all (fun x => !(fun t => !Tup.ok t) x) = true ∧ Below w.heap.size w wr) (fun _ i _ => n - (intOf i).toNat)
  case atStart => exact ⟨0, by omega, rfl, by simp, Below.refl _ _⟩
  case round =>
    obtain ⟨q, hq, rfl, hok, hbr⟩ := hrel
    have HOK := Lib.hid hok
    clear hok
    by_cases hlt : q < n
    · have g3 : decide ((q : Int) < (n : Int)) = true := by simp; omega
      have g4 : (q : Int) < (n : Int) := by omega
      have hql : q < l.length := by rw [hL.out]; exact hlt
      obtain ⟨b, off, rfl, hbl, k0, k1, k2⟩ := h.at hql
      have c0 := (hbr.cell (p := ⟨b, off + q * 3, none⟩) hbl).trans k0
      have c1 := (hbr.cell (p := ⟨b, off + q * 3 + 1, none⟩) hbl).trans k1
      have c2 := (hbr.cell (p := ⟨b, off + q * 3 + 2, none⟩) hbl).trans k2
      have hin := h.2.1 _ (List.getElem_mem hql)
      have hhit := Lib.hid (fun hp => idxI_hit (p := fun t => !Tup.ok t) hql HOK.out hp)
      have hsn := Lib.hid (fun hp => all_snoc (p := fun x => !(fun t => !Tup.ok t) x) hql HOK.out hp)
      have hcall := fun W => wrongTuple_any l[q] W hin
      clear k0 k1 k2 hin h
      generalize l[q] = t at c0 c1 c2 hhit hsn hcall
      have BR := Lib.hid hbr
      clear hbr
      cases hp : (!t.ok) with
      | true =>
        rw [hp] at hcall
        have hi := Lib.hid (hhit.out hp)
        clear hp
        go_wp2_with fail
        ((with_reducible refine (hcall _).mono ?_); rintro e w1 ⟨rfl, b1⟩)
        go_wp2_with fail
        go_ret
        exact ⟨by rw [hi.out]; rfl, BR.out.trans (b1.mono BR.out.size)⟩
      | false =>
        rw [hp] at hcall
        have hi := Lib.hid (hsn.out (by simp [hp]))
        clear hp
        go_wp2_with fail
        ((with_reducible refine (hcall _).mono ?_); rintro e w1 ⟨rfl, b1⟩)
        go_wp2_with fail
        go_roundw
        case rel => exact ⟨q + 1, by omega, by go_num, hi.out, BR.out.trans (b1.mono BR.out.size)⟩
        case measure => simp [intOf]; omega
    · have g3 : decide ((q : Int) < (n : Int)) = false := by simp; omega
      have hr := Lib.hid (idxI_miss (p := fun t => !Tup.ok t) (l := l) (by have h1 := HOK.out; rwa [List.take_of_length_le (by rw [hL.out]; omega)] at h1))
      clear h
      go_wp2_with fail
      go_ret
      exact ⟨by rw [hr.out]; rfl, hbr⟩
theorem has_tuples (A : Option Addr) (n c : Nat) (l : List Tup) (w : World) (h : RT w w.heap.size A n c l) (hn : n ≤ 140737488355328) :
    Calls Try.prog 73 #[.slice A n c, .func (.func 74) #[] #[]] w (AnsW (.bool (!l.all (fun x => !(fun t => !Tup.ok t) x))) w) := by
  have hi := idx_tuples A n c l w h hn
  have e := Lib.hid (idxI_neg (fun t => !Tup.ok t) l)
  generalize idxI (fun t => !Tup.ok t) l = k at hi e
  go_enter Try.func73, Try.ntmps73
  go_wp2_with fail
  ((with_reducible refine hi.mono ?_); rintro e w1 ⟨rfl, b1⟩)
  go_wp2_with fail
  go_ret
  exact ⟨by rw [← e.out]; rfl, b1⟩
set_option maxHeartbeats 1000000 in
theorem idx_ints (A : Option Addr) (n c : Nat) (l : List Int) (w : World) (h : RN w w.heap.size A n c l) (hn : n ≤ 140737488355328) :
    Calls Try.prog 85 #[.slice A n c, .func (.func 76) #[] #[]] w (AnsW (.int .i64 (idxI (wrongN) l)) w) := by
  have eg : ∀ args w, (callFunc 76 args).run Try.prog w = .ok (.enter 76 args) w := enters_of Try.func76 (by kernel_rfl) rfl
  have hL := Lib.hid h.1
  go_enter Try.func85, Try.ntmps85
  go_wp2_with fail
  go_loopw [5, 8] (fun _ i wr => ∃ q : Nat, q ≤ n ∧ i = .int .i64 (q : Int) ∧ (l.take q).all (fun x => !(wrongN) x) = true ∧ Below w.heap.size w wr) (fun _ i _ => n - (intOf i).toNat)
  case atStart => exact ⟨0, by omega, rfl, by simp, Below.refl _ _⟩
  case round =>
    obtain ⟨q, hq, rfl, hok, hbr⟩ := hrel
    have HOK := Lib.hid hok
    clear hok
    by_cases hlt : q < n
    · have g3 : decide ((q : Int) < (n : Int)) = true := by simp; omega
      have g4 : (q : Int) < (n : Int) := by omega
      have hql : q < l.length := by rw [hL.out]; exact hlt
      obtain ⟨b, off, rfl, hbl, k0⟩ := h.at hql
      have c0 := (hbr.cell (p := ⟨b, off + q, none⟩) hbl).trans k0
      have hhit := Lib.hid (fun hp => idxI_hit (p := wrongN) hql HOK.out hp)
      have hsn := Lib.hid (fun hp => all_snoc (p := fun x => !(wrongN) x) hql HOK.out hp)
      have hcall := fun W => wrongNumber_any l[q] W
      clear k0 h
      generalize l[q] = t at c0 hhit hsn hcall
      have BR := Lib.hid hbr
      clear hbr
      cases hp : wrongN t with
      | true =>
        rw [hp] at hcall
        have hi := Lib.hid (hhit.out hp)
        clear hp
        go_wp2_with fail
        ((with_reducible refine (hcall _).mono ?_); rintro e w1 ⟨rfl, rfl⟩)
        go_wp2_with fail
        go_ret
        exact ⟨by rw [hi.out]; rfl, BR.out⟩
      | false =>
        rw [hp] at hcall
        have hi := Lib.hid (hsn.out (by simp [hp]))
        clear hp
        go_wp2_with fail
        ((with_reducible refine (hcall _).mono ?_); rintro e w1 ⟨rfl, rfl⟩)
        go_wp2_with fail
        go_roundw
        case rel => exact ⟨q + 1, by omega, by go_num, hi.out, BR.out⟩
        case measure => simp [intOf]; omega
    · have g3 : decide ((q : Int) < (n : Int)) = false := by simp; omega
      have hr := Lib.hid (idxI_miss (p := wrongN) (l := l) (by have h1 := HOK.out; rwa [List.take_of_length_le (by rw [hL.out]; omega)] at h1))
      clear h
      go_wp2_with fail
      go_ret
      exact ⟨by rw [hr.out]; rfl, hbr⟩
theorem has_ints (A : Option Addr) (n c : Nat) (l : List Int) (w : World) (h : RN w w.heap.size A n c l) (hn : n ≤ 140737488355328) :
    Calls Try.prog 75 #[.slice A n c, .func (.func 76) #[] #[]] w (AnsW (.bool (!l.all (fun x => !(wrongN) x))) w) := by
  have hi := idx_ints A n c l w h hn
  have e := Lib.hid (idxI_neg (wrongN) l)
  generalize idxI (wrongN) l = k at hi e
  go_enter Try.func75, Try.ntmps75
  go_wp2_with fail
  ((with_reducible refine hi.mono ?_); rintro e w1 ⟨rfl, b1⟩)
  go_wp2_with fail
  go_ret
  exact ⟨by rw [← e.out]; rfl, b1⟩
end Go.Proofs.Ytnchgmemajmkjaa
namespace Go.Proofs.Ytnchgmemajmkjaa
open Go.RowKit
set_option linter.unusedVariables false
set_option linter.unusedSimpArgs false
set_option maxRecDepth 20000

theorem kind_ours (t c : Int) : decide (kindTC t c = 6) = !oursTC t c := by
  rw [Bool.eq_iff_iff]
  unfold kindTC oursTC
  by_cases h1 : t = 205
  · subst h1
    by_cases h3 : c = 3 <;> by_cases h4 : c = 4 <;> simp [h3, h4]
  · by_cases h2 : t = 206
    · subst h2
      by_cases h3 : c = 1 <;> by_cases h4 : c = 4 <;> by_cases h5 : c = 15 <;> simp [h3, h4, h5]
    · simp [h1, h2]
theorem all_notnot (l : List Tup) : (l.all fun x => !(fun t => !Tup.ok t) x) = l.all Tup.ok := by simp
theorem all_notwrong (l : List Int) : (l.all fun x => !(wrongN) x) = l.all fun n => decide (0 ≤ n) && decide (n ≤ 255) := by
  have e : (fun x => !(wrongN) x) = fun n : Int => decide (0 ≤ n) && decide (n ≤ 255) := by
    funext x
    simp [wrongN]
  rw [e]
set_option maxHeartbeats 4000000 in
theorem fits_1 (x : Rv) (w : World) (hx : IsR w w.heap.size x) (hk : x.r.kind = 1) : Calls Try.prog 46 #[x.val] w (AnsW (.bool x.r.fits) w) := by
  have hfit : x.r.fits = (tupsOk x.r.tups) := by unfold Rep.fits; rw [if_pos (by omega)]
  rw [hfit]
  clear hfit
  obtain ⟨⟨kind, src, about, tups, abouts, nums, rate, ty, count, body⟩, At, ct, Aa, ca, An, cn, Ab, cb⟩ := x
  obtain ⟨t1, t2, t3, t4, kinds⟩ := hx
  obtain ⟨h1, h2, h3, h4, h5, h6, h7, h8, h9, h10⟩ := kinds
  simp only at hk h1 h2 h3 h4 h5 h6 h7 h8 h9 h10 t1 t2 t3 t4
  subst hk
  have hb : Below w.heap.size w (w.alloc (.cells #[.int .i64 1, .int .u32 (src : Int), .int .u32 (about : Int), .slice At tups.length ct, .slice Aa abouts.length ca, .slice An nums.length cn, .int .u64 (rate : Int), .int .i64 ty, .int .i64 count, .slice Ab body.length cb] 33)) := (Below.refl _ w).alloc (Nat.le_refl _) _
  simp only [Rv.val, Rv.cells]
  have htu := fun W h => has_tuples At tups.length ct tups W h h7
  rw [all_notnot] at htu
  have hok : tupsOk tups = (tups.all Tup.ok && decide (tups.length ≤ 6)) := rfl
  rw [hok]
  clear hok
  have t1 := t1.on hb
  generalize tups.all Tup.ok = B at htu ⊢
  clear t2 t3 t4 h1 h2 h3 h4 h5 h6 h7 h8 h9 h10
  by_cases l : tups.length ≤ 6
  · have l1 : decide ((tups.length : Int) ≤ 6) = true := by simp; omega
    have l2 : decide (tups.length ≤ 6) = true := by simpa using l
    rw [l2, Bool.and_true]
    clear l l2
    go_enter Try.func46, Try.ntmps46
    go_wp2_with fail
    ((with_reducible refine (htu _ t1).mono ?_); rintro e w1 ⟨rfl, b1⟩)
    have b1 := hb.trans (b1.mono hb.size)
    clear htu t1 hb
    go_wp2_with fail
    go_ret
    exact ⟨by simp, b1⟩
  · have l1 : decide ((tups.length : Int) ≤ 6) = false := by simp; omega
    have l2 : decide (tups.length ≤ 6) = false := by simpa using l
    rw [l2, Bool.and_false]
    clear l l2 htu t1
    go_enter Try.func46, Try.ntmps46
    go_wp2_with fail
    go_ret
    exact ⟨rfl, hb⟩
set_option maxHeartbeats 4000000 in
theorem fits_2 (x : Rv) (w : World) (hx : IsR w w.heap.size x) (hk : x.r.kind = 2) : Calls Try.prog 46 #[x.val] w (AnsW (.bool x.r.fits) w) := by
  have hfit : x.r.fits = (tupsOk x.r.tups) := by unfold Rep.fits; rw [if_pos (by omega)]
  rw [hfit]
  clear hfit
  obtain ⟨⟨kind, src, about, tups, abouts, nums, rate, ty, count, body⟩, At, ct, Aa, ca, An, cn, Ab, cb⟩ := x
  obtain ⟨t1, t2, t3, t4, kinds⟩ := hx
  obtain ⟨h1, h2, h3, h4, h5, h6, h7, h8, h9, h10⟩ := kinds
  simp only at hk h1 h2 h3 h4 h5 h6 h7 h8 h9 h10 t1 t2 t3 t4
  subst hk
  have hb : Below w.heap.size w (w.alloc (.cells #[.int .i64 2, .int .u32 (src : Int), .int .u32 (about : Int), .slice At tups.length ct, .slice Aa abouts.length ca, .slice An nums.length cn, .int .u64 (rate : Int), .int .i64 ty, .int .i64 count, .slice Ab body.length cb] 33)) := (Below.refl _ w).alloc (Nat.le_refl _) _
  simp only [Rv.val, Rv.cells]
  have htu := fun W h => has_tuples At tups.length ct tups W h h7
  rw [all_notnot] at htu
  have hok : tupsOk tups = (tups.all Tup.ok && decide (tups.length ≤ 6)) := rfl
  rw [hok]
  clear hok
  have t1 := t1.on hb
  generalize tups.all Tup.ok = B at htu ⊢
  clear t2 t3 t4 h1 h2 h3 h4 h5 h6 h7 h8 h9 h10
  by_cases l : tups.length ≤ 6
  · have l1 : decide ((tups.length : Int) ≤ 6) = true := by simp; omega
    have l2 : decide (tups.length ≤ 6) = true := by simpa using l
    rw [l2, Bool.and_true]
    clear l l2
    go_enter Try.func46, Try.ntmps46
    go_wp2_with fail
    ((with_reducible refine (htu _ t1).mono ?_); rintro e w1 ⟨rfl, b1⟩)
    have b1 := hb.trans (b1.mono hb.size)
    clear htu t1 hb
    go_wp2_with fail
    go_ret
    exact ⟨by simp, b1⟩
  · have l1 : decide ((tups.length : Int) ≤ 6) = false := by simp; omega
    have l2 : decide (tups.length ≤ 6) = false := by simpa using l
    rw [l2, Bool.and_false]
    clear l l2 htu t1
    go_enter Try.func46, Try.ntmps46
    go_wp2_with fail
    go_ret
    exact ⟨rfl, hb⟩
set_option maxHeartbeats 4000000 in
theorem fits_3 (x : Rv) (w : World) (hx : IsR w w.heap.size x) (hk : x.r.kind = 3) : Calls Try.prog 46 #[x.val] w (AnsW (.bool x.r.fits) w) := by
  have hfit : x.r.fits = (true) := by unfold Rep.fits; rw [if_neg (by omega), if_neg (by omega), if_neg (by omega), if_neg (by omega)]
  rw [hfit]
  clear hfit
  obtain ⟨⟨kind, src, about, tups, abouts, nums, rate, ty, count, body⟩, At, ct, Aa, ca, An, cn, Ab, cb⟩ := x
  obtain ⟨t1, t2, t3, t4, kinds⟩ := hx
  obtain ⟨h1, h2, h3, h4, h5, h6, h7, h8, h9, h10⟩ := kinds
  simp only at hk h1 h2 h3 h4 h5 h6 h7 h8 h9 h10 t1 t2 t3 t4
  subst hk
  have hb : Below w.heap.size w (w.alloc (.cells #[.int .i64 3, .int .u32 (src : Int), .int .u32 (about : Int), .slice At tups.length ct, .slice Aa abouts.length ca, .slice An nums.length cn, .int .u64 (rate : Int), .int .i64 ty, .int .i64 count, .slice Ab body.length cb] 33)) := (Below.refl _ w).alloc (Nat.le_refl _) _
  simp only [Rv.val, Rv.cells]
  clear t1 t2 t3 t4 h1 h2 h3 h4 h5 h6 h7 h8 h9 h10
  go_enter Try.func46, Try.ntmps46
  go_wp2_with fail
  go_ret
  exact ⟨rfl, hb⟩
set_option maxHeartbeats 4000000 in
theorem fits_4 (x : Rv) (w : World) (hx : IsR w w.heap.size x) (hk : x.r.kind = 4) : Calls Try.prog 46 #[x.val] w (AnsW (.bool x.r.fits) w) := by
  have hfit : x.r.fits = (decide (x.r.abouts.length = x.r.nums.length) && (decide (1 ≤ x.r.abouts.length) && (decide (x.r.abouts.length ≤ 16) && x.r.nums.all fun n => decide (0 ≤ n) && decide (n ≤ 255)))) := by unfold Rep.fits; rw [if_neg (by omega), if_pos hk]
  rw [hfit]
  clear hfit
  obtain ⟨⟨kind, src, about, tups, abouts, nums, rate, ty, count, body⟩, At, ct, Aa, ca, An, cn, Ab, cb⟩ := x
  obtain ⟨t1, t2, t3, t4, kinds⟩ := hx
  obtain ⟨h1, h2, h3, h4, h5, h6, h7, h8, h9, h10⟩ := kinds
  simp only at hk h1 h2 h3 h4 h5 h6 h7 h8 h9 h10 t1 t2 t3 t4
  subst hk
  have hb : Below w.heap.size w (w.alloc (.cells #[.int .i64 4, .int .u32 (src : Int), .int .u32 (about : Int), .slice At tups.length ct, .slice Aa abouts.length ca, .slice An nums.length cn, .int .u64 (rate : Int), .int .i64 ty, .int .i64 count, .slice Ab body.length cb] 33)) := (Below.refl _ w).alloc (Nat.le_refl _) _
  simp only [Rv.val, Rv.cells]
  have hnu := fun W h => has_ints An nums.length cn nums W h h9
  rw [all_notwrong] at hnu
  have t3 := t3.on hb
  generalize (nums.all fun n => decide (0 ≤ n) && decide (n ≤ 255)) = B at hnu ⊢
  clear t1 t2 t4 h1 h2 h3 h4 h5 h6 h7 h8 h9 h10
  by_cases l : 1 ≤ abouts.length
  rotate_left
  · have l1 : decide ((1 : Int) ≤ (abouts.length : Int)) = false := by simp only [decide_eq_false_iff_not]; omega
    have l2 : decide (1 ≤ abouts.length) = false := decide_eq_false l
    rw [l2, Bool.false_and, Bool.and_false]
    clear l l2 hnu t3
    go_enter Try.func46, Try.ntmps46
    go_wp2_with fail
    go_ret
    exact ⟨rfl, hb⟩
  have l1 : decide ((1 : Int) ≤ (abouts.length : Int)) = true := by simp only [decide_eq_true_eq]; omega
  have l2 : decide (1 ≤ abouts.length) = true := decide_eq_true l
  rw [l2, Bool.true_and]
  clear l l2
  by_cases l : abouts.length ≤ 16
  rotate_left
  · have m1 : decide ((abouts.length : Int) ≤ 16) = false := by simp only [decide_eq_false_iff_not]; omega
    have l2 : decide (abouts.length ≤ 16) = false := decide_eq_false l
    rw [l2, Bool.false_and, Bool.and_false]
    clear l l2 hnu t3
    go_enter Try.func46, Try.ntmps46
    go_wp2_with fail
    go_ret
    exact ⟨rfl, hb⟩
  have m1 : decide ((abouts.length : Int) ≤ 16) = true := by simp only [decide_eq_true_eq]; omega
  have l2 : decide (abouts.length ≤ 16) = true := decide_eq_true l
  rw [l2, Bool.true_and]
  clear l l2
  by_cases l : abouts.length = nums.length
  rotate_left
  · have m2 : ((nums.length : Int) == (abouts.length : Int)) = false := by simp; omega
    have l2 : decide (abouts.length = nums.length) = false := decide_eq_false l
    rw [l2, Bool.false_and]
    clear l l2 hnu t3
    go_enter Try.func46, Try.ntmps46
    go_wp2_with fail
    go_ret
    exact ⟨rfl, hb⟩
  have m2 : ((nums.length : Int) == (abouts.length : Int)) = true := by simp; omega
  have l2 : decide (abouts.length = nums.length) = true := decide_eq_true l
  rw [l2, Bool.true_and]
  clear l l2
  go_enter Try.func46, Try.ntmps46
  go_wp2_with fail
  ((with_reducible refine (hnu _ t3).mono ?_); rintro e w1 ⟨rfl, b1⟩)
  have b1 := hb.trans (b1.mono hb.size)
  clear hnu t3 hb
  go_wp2_with fail
  go_ret
  exact ⟨by simp, b1⟩
set_option maxHeartbeats 4000000 in
theorem fits_5 (x : Rv) (w : World) (hx : IsR w w.heap.size x) (hk : x.r.kind = 5) : Calls Try.prog 46 #[x.val] w (AnsW (.bool x.r.fits) w) := by
  have hfit : x.r.fits = (decide (x.r.abouts.length ≤ 16) && decide (dnN x.r.rate 18 = x.r.rate)) := by unfold Rep.fits; rw [if_neg (by omega), if_neg (by omega), if_pos hk]
  rw [hfit]
  clear hfit
  obtain ⟨⟨kind, src, about, tups, abouts, nums, rate, ty, count, body⟩, At, ct, Aa, ca, An, cn, Ab, cb⟩ := x
  obtain ⟨t1, t2, t3, t4, kinds⟩ := hx
  obtain ⟨h1, h2, h3, h4, h5, h6, h7, h8, h9, h10⟩ := kinds
  simp only at hk h1 h2 h3 h4 h5 h6 h7 h8 h9 h10 t1 t2 t3 t4
  subst hk
  have hb : Below w.heap.size w (w.alloc (.cells #[.int .i64 5, .int .u32 (src : Int), .int .u32 (about : Int), .slice At tups.length ct, .slice Aa abouts.length ca, .slice An nums.length cn, .int .u64 (rate : Int), .int .i64 ty, .int .i64 count, .slice Ab body.length cb] 33)) := (Below.refl _ w).alloc (Nat.le_refl _) _
  simp only [Rv.val, Rv.cells]
  have hdn : ∀ W, Calls Try.prog 77 #[.int .u64 (rate : Int), .int .i64 18] W fun e w' => e = .returned (.int .u64 (dnR rate 18 : Int)) ∧ w' = W := fun W => (rate_down_s rate 18 W h4).mono fun _ _ h => ⟨h.1, h.2.symm⟩
  have e18 := dnR_in h4 (bits := 18) (by omega)
  rw [show dnN rate 18 = dnR rate 18 from e18.symm]
  generalize dnR rate 18 = D at hdn
  clear e18 t1 t2 t3 t4 h1 h2 h3 h5 h6 h7 h9 h10
  by_cases l4 : abouts.length ≤ 16
  rotate_left
  · have e2 : decide (abouts.length ≤ 16) = false := by simpa using l4
    rw [e2, Bool.false_and]
    have l5 : decide ((abouts.length : Int) ≤ 16) = false := by simp only [decide_eq_false_iff_not]; omega
    clear l4 e2
    go_enter Try.func46, Try.ntmps46
    go_wp2_with fail
    go_quiet ((go_at_call 77; refine Calls.quiet_of_same (hdn _)))
    go_wp2_with fail
    go_ret
    exact ⟨rfl, hb.trans ((below_drewN _ _ nq).mono hb.size)⟩
  have e2 : decide (abouts.length ≤ 16) = true := by simpa using l4
  rw [e2, Bool.true_and]
  have l5 : decide ((abouts.length : Int) ≤ 16) = true := by simp only [decide_eq_true_eq]; omega
  clear l4 e2
  by_cases l6 : D = rate
  · have e3 : decide (D = rate) = true := by simpa using l6
    rw [e3]
    have l7 : ((rate : Int) == (D : Int)) = true := by simp; omega
    clear l6 e3
    go_enter Try.func46, Try.ntmps46
    go_wp2_with fail
    go_quiet ((go_at_call 77; refine Calls.quiet_of_same (hdn _)))
    go_wp2_with fail
    go_ret
    exact ⟨rfl, hb.trans ((below_drewN _ _ nq).mono hb.size)⟩
  · have e3 : decide (D = rate) = false := by simpa using l6
    rw [e3]
    have l7 : ((rate : Int) == (D : Int)) = false := by simp; omega
    clear l6 e3
    go_enter Try.func46, Try.ntmps46
    go_wp2_with fail
    go_quiet ((go_at_call 77; refine Calls.quiet_of_same (hdn _)))
    go_wp2_with fail
    go_ret
    exact ⟨rfl, hb.trans ((below_drewN _ _ nq).mono hb.size)⟩
set_option maxHeartbeats 4000000 in
theorem fits_6 (x : Rv) (w : World) (hx : IsR w w.heap.size x) (hk : x.r.kind = 6) : Calls Try.prog 46 #[x.val] w (AnsW (.bool x.r.fits) w) := by
  have hfit : x.r.fits = (decide (192 ≤ x.r.ty) && (decide (x.r.ty ≤ 223) && (decide (0 ≤ x.r.count) && (decide (x.r.count ≤ 31) && (decide (x.r.body.length % 4 = 0) && (decide (x.r.body.length ≤ 262140) && !oursTC x.r.ty x.r.count)))))) := by unfold Rep.fits; rw [if_neg (by omega), if_neg (by omega), if_neg (by omega), if_pos hk]
  rw [hfit]
  clear hfit
  obtain ⟨⟨kind, src, about, tups, abouts, nums, rate, ty, count, body⟩, At, ct, Aa, ca, An, cn, Ab, cb⟩ := x
  obtain ⟨t1, t2, t3, t4, kinds⟩ := hx
  obtain ⟨h1, h2, h3, h4, h5, h6, h7, h8, h9, h10⟩ := kinds
  simp only at hk h1 h2 h3 h4 h5 h6 h7 h8 h9 h10 t1 t2 t3 t4
  subst hk
  have hb : Below w.heap.size w (w.alloc (.cells #[.int .i64 6, .int .u32 (src : Int), .int .u32 (about : Int), .slice At tups.length ct, .slice Aa abouts.length ca, .slice An nums.length cn, .int .u64 (rate : Int), .int .i64 ty, .int .i64 count, .slice Ab body.length cb] 33)) := (Below.refl _ w).alloc (Nat.le_refl _) _
  simp only [Rv.val, Rv.cells]
  have hty := fun W => typed_any ty W
  have hko := fun W => kindOf_any ty count W
  have hks := kind_ours ty count
  have e1 : (decide (192 ≤ ty) && (decide (ty ≤ 223) && (decide (0 ≤ count) && (decide (count ≤ 31) && (decide (body.length % 4 = 0) && (decide (body.length ≤ 262140) && !oursTC ty count)))))) = (typedB ty && (decide (0 ≤ count) && (decide (count ≤ 31) && (decide (kindTC ty count = 6) && (decide (body.length % 4 = 0) && decide (body.length ≤ 262140)))))) := by
    rw [hks, Bool.eq_iff_iff]
    simp only [typedB, Bool.and_eq_true, decide_eq_true_eq]
    constructor
    · rintro ⟨a, b, c, d, e, f, g⟩
      exact ⟨⟨a, b⟩, c, d, g, e, f⟩
    · rintro ⟨⟨a, b⟩, c, d, g, e, f⟩
      exact ⟨a, b, c, d, e, f, g⟩
  rw [e1]
  generalize typedB ty = T at hty ⊢
  generalize kindTC ty count = K at hko ⊢
  clear e1 hks t1 t2 t3 t4 h1 h2 h3 h4 h7 h8 h9
  have cT : True := trivial
  clear cT
  cases T
  · rw [Bool.false_and]
    clear hko
    go_enter Try.func46, Try.ntmps46
    go_wp2_with fail
    ((with_reducible refine (hty _).mono ?_); rintro e w1 ⟨rfl, rfl⟩)
    go_wp2_with fail
    go_ret
    exact ⟨rfl, hb⟩
  rw [Bool.true_and]
  by_cases l : 0 ≤ count
  rotate_left
  · rw [decide_eq_false l, Bool.false_and]
    have m : decide (0 ≤ count) = false := decide_eq_false l
    clear l hko
    go_enter Try.func46, Try.ntmps46
    go_wp2_with fail
    ((with_reducible refine (hty _).mono ?_); rintro e w1 ⟨rfl, rfl⟩)
    go_wp2_with fail
    go_ret
    exact ⟨rfl, hb⟩
  rw [decide_eq_true l, Bool.true_and]
  have m0 : decide (0 ≤ count) = true := decide_eq_true l
  clear l
  by_cases l : count ≤ 31
  rotate_left
  · rw [decide_eq_false l, Bool.false_and]
    have m : decide (count ≤ 31) = false := decide_eq_false l
    clear l hko
    go_enter Try.func46, Try.ntmps46
    go_wp2_with fail
    ((with_reducible refine (hty _).mono ?_); rintro e w1 ⟨rfl, rfl⟩)
    go_wp2_with fail
    go_ret
    exact ⟨rfl, hb⟩
  rw [decide_eq_true l, Bool.true_and]
  have m1 : decide (count ≤ 31) = true := decide_eq_true l
  clear l
  by_cases l : K = 6
  rotate_left
  · rw [decide_eq_false l, Bool.false_and]
    have m : (K == 6) = false := by simpa using l
    clear l
    go_enter Try.func46, Try.ntmps46
    go_wp2_with fail
    ((with_reducible refine (hty _).mono ?_); rintro e w1 ⟨rfl, rfl⟩)
    go_wp2_with fail
    ((with_reducible refine (hko _).mono ?_); rintro e w1 ⟨rfl, rfl⟩)
    go_wp2_with fail
    go_ret
    exact ⟨rfl, hb⟩
  rw [decide_eq_true l, Bool.true_and]
  have m2 : (K == 6) = true := by simpa using l
  clear l
  by_cases l : body.length % 4 = 0
  rotate_left
  · rw [decide_eq_false l, Bool.false_and]
    have m : ((body.length : Int) % 4 == 0) = false := by simp; omega
    clear l
    go_enter Try.func46, Try.ntmps46
    go_wp2_with fail
    ((with_reducible refine (hty _).mono ?_); rintro e w1 ⟨rfl, rfl⟩)
    go_wp2_with fail
    ((with_reducible refine (hko _).mono ?_); rintro e w1 ⟨rfl, rfl⟩)
    go_wp2_with fail
    go_ret
    exact ⟨rfl, hb⟩
  rw [decide_eq_true l, Bool.true_and]
  have m3 : ((body.length : Int) % 4 == 0) = true := by simp; omega
  by_cases l4 : body.length ≤ 262140
  rotate_left
  · rw [decide_eq_false l4]
    have m : decide ((body.length : Int) / 4 ≤ 65535) = false := by simp only [decide_eq_false_iff_not]; omega
    clear l l4
    go_enter Try.func46, Try.ntmps46
    go_wp2_with fail
    ((with_reducible refine (hty _).mono ?_); rintro e w1 ⟨rfl, rfl⟩)
    go_wp2_with fail
    ((with_reducible refine (hko _).mono ?_); rintro e w1 ⟨rfl, rfl⟩)
    go_wp2_with fail
    go_ret
    exact ⟨rfl, hb⟩
  · rw [decide_eq_true l4]
    have m4 : decide ((body.length : Int) / 4 ≤ 65535) = true := by simp only [decide_eq_true_eq]; omega
    clear l l4
    go_enter Try.func46, Try.ntmps46
    go_wp2_with fail
    ((with_reducible refine (hty _).mono ?_); rintro e w1 ⟨rfl, rfl⟩)
    go_wp2_with fail
    ((with_reducible refine (hko _).mono ?_); rintro e w1 ⟨rfl, rfl⟩)
    go_wp2_with fail
    go_ret
    exact ⟨rfl, hb⟩
theorem rtcp_fits (x : Rv) (w : World) (hx : IsR w w.heap.size x) (hk : 1 ≤ x.r.kind ∧ x.r.kind ≤ 6) : Calls Try.prog 46 #[x.val] w (AnsW (.bool x.r.fits) w) := by
  have hc : x.r.kind = 1 ∨ x.r.kind = 2 ∨ x.r.kind = 3 ∨ x.r.kind = 4 ∨ x.r.kind = 5 ∨ x.r.kind = 6 := by omega
  rcases hc with h | h | h | h | h | h
  · exact fits_1 x w hx h
  · exact fits_2 x w hx h
  · exact fits_3 x w hx h
  · exact fits_4 x w hx h
  · exact fits_5 x w hx h
  · exact fits_6 x w hx h
end Go.Proofs.Ytnchgmemajmkjaa
