/- The given reference's limit in memory; contracts: New, Rate. -/
import Derived.Test.YtfijlgkgbbemnaaLmP
import Derived.Test.YtfijlgkgbbemnaaNr
import Derived.Test.YtfijlgkgbbemnaaDr
namespace Go.Proofs.Ytfijlgkgbbemnaa
open Go.RowKit
set_option linter.unusedVariables false
set_option linter.unusedSimpArgs false
set_option maxRecDepth 20000

def lv (x : Int) : Value := .int .i64 x
/-- A row of numbers of one's own. -/
def OwnV (w : World) (base : Nat) (v : Value) (l : List Int) : Prop := w.ownsRow base 2 1 v l.length (l.map lv)
theorem OwnV.nil (w : World) (base : Nat) : OwnV w base (.slice none 0 0) [] := own_nil w base 1 _
theorem OwnV.on {w w' : World} {base : Nat} {v : Value} {l : List Int} (h : OwnV w base v l) (hb : Below w.heap.size w w') : OwnV w' base v l := own_kept h hb
theorem OwnV.rx {w : World} {base : Nat} {v : Value} {l : List Int} (h : OwnV w base v l) : ∃ A c, v = .slice A l.length c ∧ RX w w.heap.size A l.length c 1 (l.map lv) ∧ ∀ ad, A = some ad → base ≤ ad.block := own_rx (by simp) h
theorem i64v_info : (Try.prog.info? 2).map (fun i => (i.zero, i.size, i.bytes)) = some (some (.int .i64 0), 1, 8) := by kernel_rfl
theorem lv_one (l : List Int) : ∀ u ∈ l.map lv, u.oneCell' = true := by
  intro u hu
  obtain ⟨x, _, rfl⟩ := List.mem_map.1 hu
  rfl
theorem run_appendV {w : World} (base : Nat) (v : Value) (l : List Int) (hown : OwnV w base v l) (B : Nat) (A : Option Addr) (m c : Nat) (r : List Int) (hr : RX w B A m c 1 (r.map lv)) (hb : l.length + m ≤ 4398046511104) (hbase : base ≤ w.heap.size) :
    ∃ v' w', (Builtin.append_ #[54, 54] 54 #[v, .slice A m c]).run Try.prog w = .ok v' w' ∧ OwnV w' base v' (l ++ r) ∧ w.grownBy w' v.ownBlock ∧ (v'.ownBlock = v.ownBlock ∨ v'.ownBlock = some w.heap.size) := by
  obtain ⟨v', w', h1, h2, h3, h4⟩ := run_appendX base 54 54 2 (.int .i64 0) 1 8 Try.underlying54 i64v_info rfl (by omega) v l.length (l.map lv) hown B A m c (r.map lv) hr (lv_one r) (by simp only [maxLen]; omega) (by omega) hbase
  refine ⟨v', w', h1, ?_, h3, h4⟩
  have hl := hr.1
  rw [List.length_map] at hl
  unfold OwnV
  rw [List.length_append, show r.length = m by omega, List.map_append]
  exact h2
theorem own_onlyS {w w' : World} {base size n : Nat} {e : TypeId} {v : Value} {xs : List Value} {T : Nat → Prop} (h : w.ownsRow base e size v n xs) (ho : OnlyS T w w') (hT : ∀ k, v.ownBlock = some k → ¬ T k) : w'.ownsRow base e size v n xs := by
  refine ⟨h.1, ?_⟩
  rcases h.2 with hn | ⟨g, cap, cur, rfl, hb, hg, rest⟩
  · exact .inl hn
  · exact .inr ⟨g, cap, cur, rfl, hb, (ho.block g (Array.getElem?_eq_some_iff.1 hg).1 (hT g rfl)).trans hg, rest⟩
theorem own_type {w : World} {base size n : Nat} {e : TypeId} {v : Value} {xs : List Value} (h : w.ownsRow base e size v n xs) {k : Nat} (hk : v.ownBlock = some k) : ∃ cur, w.heap[k]? = some (.cells cur e (0, 0)) := by
  rcases h.2 with ⟨rfl, _⟩ | ⟨g, cap, cur, rfl, hb, hg, rest⟩
  · simp [Value.ownBlock] at hk
  · have : g = k := by simpa [Value.ownBlock] using hk
    subst this
    exact ⟨cur, hg⟩
theorem own_ne {w : World} {b1 b2 s1 s2 n1 n2 : Nat} {e1 e2 : TypeId} {v1 v2 : Value} {xs ys : List Value} (h1 : w.ownsRow b1 e1 s1 v1 n1 xs) (h2 : w.ownsRow b2 e2 s2 v2 n2 ys) (he : e1 ≠ e2) {k : Nat} (hk1 : v1.ownBlock = some k) (hk2 : v2.ownBlock = some k) : False := by
  obtain ⟨c1, t1⟩ := own_type h1 hk1
  obtain ⟨c2, t2⟩ := own_type h2 hk2
  rw [t1] at t2
  injection t2 with t2
  injection t2 with _ t2
  exact he t2
theorem own_blk_ne {w : World} {b s n G : Nat} {e t : TypeId} {v : Value} {xs : List Value} {cs : Array Value} (h : w.ownsRow b e s v n xs) (hB : Blk w G t cs) (he : e ≠ t) : v.ownBlock ≠ some G := fun hk => by
  obtain ⟨c1, t1⟩ := own_type h hk
  unfold Blk at hB
  rw [t1] at hB
  injection hB with hB
  injection hB with _ hB
  exact he hB
/-- The reference's limit: at G, its rows at v1, v2. -/
structure RlAt (w : World) (G c : Nat) (rb : Option Nat) (E : Ents) (v1 v2 : Value) : Prop where
  blk : Blk w G 56 #[.int .i64 (c : Int), .int .i64 (rbI rb), v1, v2]
  r1 : OwnTp w 0 v1 E.T
  r2 : OwnV w 0 v2 E.U
def RlS (G : Nat) (v1 v2 : Value) (k : Nat) : Prop := k = G ∨ v1.ownBlock = some k ∨ v2.ownBlock = some k
section
variable {w w' : World} {G c : Nat} {rb : Option Nat} {E : Ents} {v1 v2 : Value}
theorem RlAt.n1 (h : RlAt w G c rb E v1 v2) : v1.ownBlock ≠ some G := own_blk_ne h.r1 h.blk (by decide)
theorem RlAt.n2 (h : RlAt w G c rb E v1 v2) : v2.ownBlock ≠ some G := own_blk_ne h.r2 h.blk (by decide)
theorem RlAt.n12 (h : RlAt w G c rb E v1 v2) {k : Nat} (h1 : v1.ownBlock = some k) (h2 : v2.ownBlock = some k) : False := own_ne h.r1 h.r2 (by decide) h1 h2
theorem RlAt.lt (h : RlAt w G c rb E v1 v2) {k : Nat} (hk : RlS G v1 v2 k) : k < w.heap.size := by
  rcases hk with rfl | hk | hk
  · exact h.blk.lt
  · exact (World.ownsRow.lt h.r1 k hk).2
  · exact (World.ownsRow.lt h.r2 k hk).2
theorem RlAt.keep {T : Nat → Prop} (h : RlAt w G c rb E v1 v2) (ho : OnlyS T w w') (hT : ∀ k, RlS G v1 v2 k → ¬ T k) : RlAt w' G c rb E v1 v2 :=
  ⟨h.blk.onlyS ho (hT G (.inl rfl)), own_onlyS h.r1 ho (fun k hk => hT k (.inr (.inl hk))), own_onlyS h.r2 ho (fun k hk => hT k (.inr (.inr hk)))⟩
theorem RlAt.on (h : RlAt w G c rb E v1 v2) (hb : Below w.heap.size w w') : RlAt w' G c rb E v1 v2 := h.keep (OnlyS.of (S := fun _ => False) hb) (fun _ _ h => h)
theorem RlAt.cells (h : RlAt w G c rb E v1 v2) : (w.cell? ⟨G, 0, none⟩ = some (.int .i64 (c : Int)) ∧ w.cell? ⟨G, 1, none⟩ = some (.int .i64 (rbI rb)) ∧ w.cell? ⟨G, 2, none⟩ = some v1 ∧ w.cell? ⟨G, 3, none⟩ = some v2) ∧ ∀ i, w.frozen? ⟨G, i, none⟩ = false :=
  ⟨⟨h.blk.cell 0, h.blk.cell 1, h.blk.cell 2, h.blk.cell 3⟩, fun i => h.blk.frozen i⟩
theorem RlAt.val1 (h : RlAt w G c rb E v1 v2) (hi : EntsOk E) : ∃ A c1, v1 = .slice A E.length c1 ∧ RT w w.heap.size A E.length c1 E.T := by
  obtain ⟨A, c1, e, r, _⟩ := h.r1.rt (fun x hx => by
    obtain ⟨y, hy, rfl⟩ := List.mem_map.1 hx
    exact (hi.ins y hy).t)
  rw [E.T_len] at e r
  exact ⟨A, c1, e, r⟩
theorem RlAt.val2 (h : RlAt w G c rb E v1 v2) : ∃ A c2, v2 = .slice A E.length c2 ∧ RX w w.heap.size A E.length c2 1 (E.U.map lv) := by
  obtain ⟨A, c2, e, r, _⟩ := h.r2.rx
  rw [E.U_len] at e r
  exact ⟨A, c2, e, r⟩
end
theorem ref_newL (a : Int) (ha : I64 a) (w : World) : Calls Try.prog 22 #[.int .i64 a] w (fun e w' => ∃ G, e = .returned (.pointer (some ⟨G, 0, none⟩)) ∧ RlAt w' G (capN a) none [] (.slice none 0 0) (.slice none 0 0) ∧ w.heap.size ≤ G ∧ Below w.heap.size w w') := by
  have HE : Hid (capN a = if a < 1 then 1 else min a.toNat 1099511627776) := Lib.hid rfl
  generalize capN a = E at HE ⊢
  have HB := Lib.hid (⟨Blk.new w _ _, belowA w _⟩ : Blk (w.alloc (.cells #[.int .i64 (E : Int), .int .i64 (-1), .slice none 0 0, .slice none 0 0] 56)) w.heap.size 56 #[.int .i64 (E : Int), .int .i64 (-1), .slice none 0 0, .slice none 0 0] ∧ Below w.heap.size w (w.alloc (.cells #[.int .i64 (E : Int), .int .i64 (-1), .slice none 0 0, .slice none 0 0] 56)))
  have fin : Hid (∃ G, (.returned (.pointer (some ⟨w.heap.size, 0, none⟩)) : Ending) = .returned (.pointer (some ⟨G, 0, none⟩)) ∧ RlAt (w.alloc (.cells #[.int .i64 (E : Int), .int .i64 (-1), .slice none 0 0, .slice none 0 0] 56)) G E none [] (.slice none 0 0) (.slice none 0 0) ∧ w.heap.size ≤ G ∧ Below w.heap.size w (w.alloc (.cells #[.int .i64 (E : Int), .int .i64 (-1), .slice none 0 0, .slice none 0 0] 56))) :=
    Lib.hid ⟨w.heap.size, rfl, ⟨HB.out.1, OwnTp.nil _ _, OwnV.nil _ _⟩, Nat.le_refl _, HB.out.2⟩
  have hc : a < 1 ∨ (1 ≤ a ∧ a ≤ 1099511627776) ∨ 1099511627776 < a := by omega
  rcases hc with h | h | h
  · have hE : E = 1 := by rw [HE.out, if_pos h]
    subst hE
    have h2 : a < 1099511627776 := by omega
    have h3 : ¬ 1099511627776 < a := by omega
    have h4 : a ≤ 1099511627776 := by omega
    have h5 : a ≤ 1 := by omega
    have h6 : ¬ 1 < a := by omega
    have q1 : (if a < 1 then (1 : Int) else a) = 1 := by split <;> omega
    have q2 : (if a < 1099511627776 then a else (1099511627776 : Int)) = a := by split <;> omega
    clear HE
    go_enter Try.func22, Try.ntmps22
    go_wp2_with fail
    go_ret
    exact fin.out
  · obtain ⟨x, rfl⟩ : ∃ x : Nat, a = (x : Int) := ⟨a.toNat, by omega⟩
    have hE : E = x := by rw [HE.out, if_neg (by omega)]; omega
    subst hE
    have h3 : ¬ (1099511627776 : Int) < (E : Int) := by omega
    have h4 : (E : Int) ≤ 1099511627776 := by omega
    have h5 : ¬ (E : Int) < 1 := by omega
    have h6 : (1 : Int) ≤ (E : Int) := by omega
    have q1 : (if (E : Int) < 1099511627776 then (E : Int) else (1099511627776 : Int)) = (E : Int) := by split <;> omega
    have q2 : (if (1099511627776 : Int) < (E : Int) then (1099511627776 : Int) else (E : Int)) = (E : Int) := by split <;> omega
    have q3 : (if (E : Int) < 1 then (1 : Int) else (E : Int)) = (E : Int) := by split <;> omega
    clear HE h
    go_enter Try.func22, Try.ntmps22
    go_wp2_with fail
    go_ret
    exact fin.out
  · have hE : E = 1099511627776 := by rw [HE.out, if_neg (by omega)]; omega
    subst hE
    have h2 : ¬ a ≤ 1099511627776 := by omega
    have h3 : ¬ a < 1099511627776 := by omega
    go_enter Try.func22, Try.ntmps22
    go_wp2_with fail
    go_ret
    exact fin.out
end Go.Proofs.Ytfijlgkgbbemnaa
