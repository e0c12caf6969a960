/- The project's table of deadlines: a map of times behind a pointer; New, Set, Clear, At, Len. -/
import Derived.Test.YtkhhaokelhmikaaAlB
import Derived.Test.YtkhhaokelhmikaaAlU
import Derived.Test.YtkhhaokelhmikaaAlG
import Derived.Deep.CutRange
namespace Go.Proofs.Ytkhhaokelhmikaa
open Go.RowKit Go.Maps
set_option linter.unusedVariables false
set_option linter.unusedSimpArgs false
set_option maxRecDepth 20000

abbrev MapOf (w : World) (Mb n : Nat) (D : DataW Unit) : Prop := w.ownsMap Try.prog 23 (plainElem Try.prog 2) Mb n D
/-- A table at G that holds just the deadlines L; it stands on the blocks S. -/
def TbAt (w : World) (G : Nat) (L : List Du) (S : Nat → Prop) : Prop :=
  ∃ Mb D, Blk w G 49 #[.map (some Mb)] ∧ MapOf w Mb L.length D ∧ MapR L D ∧ ∀ k, S k ↔ k = G ∨ k = Mb
theorem TbAt.lt {w : World} {G : Nat} {L : List Du} {S : Nat → Prop} (h : TbAt w G L S) {k : Nat} (hk : S k) : k < w.heap.size := by
  obtain ⟨Mb, D, h1, h2, h3, h4⟩ := h
  rcases (h4 k).1 hk with rfl | rfl
  · exact h1.lt
  · exact h2.lt
theorem TbAt.keep {w w' : World} {G : Nat} {L : List Du} {S T : Nat → Prop} (h : TbAt w G L S) (ho : OnlyS T w w') (hd : ∀ k, S k → ¬ T k) : TbAt w' G L S := by
  obtain ⟨Mb, D, h1, h2, h3, h4⟩ := h
  exact ⟨Mb, D, h1.onlyS ho (hd G ((h4 G).2 (.inl rfl))), ownsMap_onlyS h2 ho (hd Mb ((h4 Mb).2 (.inr rfl))), h3, h4⟩
theorem mapOf_ne {w : World} {G Mb n : Nat} {D : DataW Unit} {t : TypeId} {cs : Array Value} (h1 : Blk w G t cs) (h2 : MapOf w Mb n D) : G ≠ Mb := by
  rintro rfl
  obtain ⟨es, clock, hb, _⟩ := h2
  unfold Blk at h1
  rw [h1] at hb
  cases hb
/-- What a method leaves that turns its table. -/
def TbOut (G : Nat) (L : List Du) (S : Nat → Prop) (v : Value) (w : World) (e : Ending) (w' : World) : Prop :=
  e = .returned v ∧ ∃ S', TbAt w' G L S' ∧ (∀ k, S' k → S k ∨ w.heap.size ≤ k) ∧ OnlyS S w w'
/-- What Due leaves. -/
def TbDue (G : Nat) (L : List Du) (now : Int) (S : Nat → Prop) (w : World) (e : Ending) (w' : World) : Prop :=
  ∃ A n c R S', e = .returned (.slice A n c) ∧ DueR L now R ∧ RD w' w'.heap.size A n c R ∧ (∀ ad, A = some ad → 0 < n → w.heap.size ≤ ad.block ∧ ¬ S' ad.block) ∧ TbAt w' G (lateK L now) S' ∧ (∀ k, S' k → S k ∨ w.heap.size ≤ k) ∧ OnlyS S w w'
theorem tb_new (w : World) : Calls Try.prog 9 #[] w (fun e w' => ∃ G S, e = .returned (.pointer (some ⟨G, 0, none⟩)) ∧ TbAt w' G [] S ∧ (∀ k, S k → w.heap.size ≤ k) ∧ Below w.heap.size w w') := by
  have hmm := @run_makeMap Try.prog
  go_enter Try.func9, Try.ntmps9
  go_wp2
  go_ret
  have b1 := belowA w (.map #[] 0)
  have b2 := belowA (w.alloc (.map #[] 0)) (.cells #[.map (some w.heap.size)] 49)
  have hs : (w.alloc (.map #[] 0)).heap.size = w.heap.size + 1 := by simp
  refine ⟨_, fun k => k = w.heap.size + 1 ∨ k = w.heap.size, rfl, ⟨w.heap.size, .map [], ?_, ownsMap_below (World.ownsMap_made _ _ _ _) b2, MapR.nil, fun k => Iff.rfl⟩, fun k hk => by omega, b1.trans (b2.mono (by omega))⟩
  have := Blk.new (w.alloc (.map #[] 0)) 49 #[.map (some w.heap.size)]
  rwa [hs] at this
section
variable {w : World} {G : Nat} {L : List Du} {S : Nat → Prop}
theorem tb_set (h : TbAt w G L S) (hk : Keys L) (hi : InD L) (hl : L.length ≤ 100000) {k : Nat} {t : Int} (hk2 : k < 18446744073709551616) (ht : I64 t) : Calls Try.prog 10 #[.pointer (some ⟨G, 0, none⟩), .int .u64 (k : Int), .int .i64 t] w (TbOut G (setK L k t) S (.tuple #[]) w) := by
  obtain ⟨Mb, D, h1, h2, h3, h4⟩ := h
  have c0 : w.cell? ⟨G, 0, none⟩ = some (.map (some Mb)) := h1.cell 0
  have HK : Hid (keyOf Try.prog 23 (.int .u64 (k : Int)) = some (.int .u64 (k : Int))) := Lib.hid (keyOf_int_mk Try.underlying23 (wfU hk2))
  have HT := Lib.hid ht
  have HM := Lib.hid h2
  have H := Lib.hid (⟨h1, h3, h4, hk, hl⟩ : Blk w G 49 #[.map (some Mb)] ∧ MapR L D ∧ (∀ k, S k ↔ k = G ∨ k = Mb) ∧ Keys L ∧ L.length ≤ 100000)
  clear h1 h2 h3 h4 hk hi ht hl
  go_enter Try.func10, Try.ntmps10
  go_wp2_with (at_mapUpdate; refine wpList_mapUpdate_own _ rfl _ _ _ 39 rfl 23 2 lawU Try.underlying39 _ Mb L.length D rfl HM.out (by have := H.out.2.2.2.2; unfold maxLen; omega) _ _ _ rfl rfl HK.out _ [] (plainElem_int Try.underlying2 (wfI HT.out)) ?_; intro w9 hown9 hgrow9)
  refine bodyPost_end (results_none Try.results10 _ _ _) rfl ?_
  obtain ⟨h1, h3, h4, hk, hl⟩ := H.out
  have hr := h3.put (HM.out.tidy lawU) hk k t
  have ho := only_grown hgrow9
  have ht := ownsMap_tight hown9
  rw [hr.size] at ht
  exact ⟨rfl, S, ⟨Mb, _, h1.onlyS ho (mapOf_ne h1 HM.out), ht, hr, h4⟩, fun k hk => .inl hk, ho.more fun k hk => (h4 k).2 (.inr hk)⟩
theorem tb_clear (h : TbAt w G L S) (hk : Keys L) (hi : InD L) (hl : L.length ≤ 100000) {k : Nat} (hk2 : k < 18446744073709551616) : Calls Try.prog 15 #[.pointer (some ⟨G, 0, none⟩), .int .u64 (k : Int)] w (TbOut G (dropK L k) S (.bool (hasK L k)) w) := by
  obtain ⟨Mb, D, h1, h2, h3, h4⟩ := h
  have c0 : w.cell? ⟨G, 0, none⟩ = some (.map (some Mb)) := h1.cell 0
  have HK : Hid (keyOf Try.prog 23 (.int .u64 (k : Int)) = some (.int .u64 (k : Int))) := Lib.hid (keyOf_int_mk Try.underlying23 (wfU hk2))
  have hh : Maps.has D (.int .u64 (k : Int)) = hasK L k := h3.has k
  generalize hasK L k = hb at hh ⊢
  have HM := Lib.hid h2
  have H := Lib.hid (⟨h1, h3, h4, hk⟩ : Blk w G 49 #[.map (some Mb)] ∧ MapR L D ∧ (∀ k, S k ↔ k = G ∨ k = Mb) ∧ Keys L)
  clear h1 h2 h3 h4 hk hi hl
  go_enter Try.func15, Try.ntmps15
  go_wp2_with (first
    | (at_lookup; refine wpList_lookup_own_ok_int _ rfl _ _ 39 rfl 23 2 .i64 lawU Try.underlying39 Try.underlying2 (zeroI _) Mb L.length D rfl HM.out _ _ rfl HK.out ?_; intro c9 hat hwc; clear hat hwc)
    | (at_delete; refine wpList_delete_own _ rfl _ _ 39 23 rfl 2 lawU Try.underlying39 _ Mb L.length D rfl HM.out _ _ rfl HK.out ?_; intro w9 hown9 hturn9))
  go_ret
  obtain ⟨h1, h3, h4, hk⟩ := H.out
  have hr := h3.del (HM.out.tidy lawU) hk k
  have ho := only_grown hturn9.grown
  have ht := ownsMap_tight hown9
  rw [hr.size] at ht
  exact ⟨rfl, S, ⟨Mb, _, h1.onlyS ho (mapOf_ne h1 HM.out), ht, hr, h4⟩, fun k hk => .inl hk, ho.more fun k hk => (h4 k).2 (.inr hk)⟩
theorem tb_at (h : TbAt w G L S) (hk : Keys L) (hi : InD L) (hl : L.length ≤ 100000) {k : Nat} (hk2 : k < 18446744073709551616) : Calls Try.prog 13 #[.pointer (some ⟨G, 0, none⟩), .int .u64 (k : Int)] w (AnsB (.tuple #[.int .i64 (lookK L k), .bool (hasK L k)]) w) := by
  obtain ⟨Mb, D, h1, h2, h3, h4⟩ := h
  have c0 : w.cell? ⟨G, 0, none⟩ = some (.map (some Mb)) := h1.cell 0
  have HK : Hid (keyOf Try.prog 23 (.int .u64 (k : Int)) = some (.int .u64 (k : Int))) := Lib.hid (keyOf_int_mk Try.underlying23 (wfU hk2))
  have hh : Maps.has D (.int .u64 (k : Int)) = hasK L k := h3.has k
  have HL := Lib.hid (h3.look k)
  generalize hasK L k = hb at hh ⊢
  generalize lookK L k = lk at HL ⊢
  have HC9 : Hid (∀ c9 : Int, D.atKey (.int .u64 (k : Int)) (.lit (.int .i64 0)) = .lit (.int .i64 c9) → c9 = lk) := Lib.hid (fun c9 hat => by
    have := HL.out
    rw [hat] at this
    injection this with this
    injection this)
  have HM := Lib.hid h2
  clear h1 h2 h3 h4 hk hi hl
  go_enter Try.func13, Try.ntmps13
  go_wp2_with (at_lookup; refine wpList_lookup_own_ok_int _ rfl _ _ 39 rfl 23 2 .i64 lawU Try.underlying39 Try.underlying2 (zeroI _) Mb L.length D rfl HM.out _ _ rfl HK.out ?_; intro c9 hat hwc; obtain rfl := HC9.out c9 hat; clear hat hwc)
  go_ret2
  exact ⟨rfl, Below.refl _ _⟩
theorem tb_len (h : TbAt w G L S) (hl : L.length ≤ 100000) : Calls Try.prog 12 #[.pointer (some ⟨G, 0, none⟩)] w (Dn (.int .i64 (L.length : Int)) w) := by
  obtain ⟨Mb, D, h1, h2, h3, h4⟩ := h
  have c0 : w.cell? ⟨G, 0, none⟩ = some (.map (some Mb)) := h1.cell 0
  have hz : (Maps.size D : Int) = (L.length : Int) := by rw [h3.size]
  have HZ := Lib.hid hz
  have HM := Lib.hid h2
  clear h1 h3 h4 h2 hz
  go_enter Try.func12, Try.ntmps12
  go_wp2_with (at_len; refine wpList_len_own _ rfl _ 39 rfl 23 2 Try.underlying39 _ Mb L.length D rfl HM.out ?_; rw [HZ.out])
  go_ret
  exact ⟨rfl, 0, rfl⟩
end
end Go.Proofs.Ytkhhaokelhmikaa
