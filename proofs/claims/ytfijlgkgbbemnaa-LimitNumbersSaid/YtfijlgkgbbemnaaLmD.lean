/- Contract: limelightlaw14.tape. -/
import Derived.Test.YtfijlgkgbbemnaaLmQ
import Derived.Test.YtfijlgkgbbemnaaRi
import Derived.Test.YtfijlgkgbbemnaaNt
namespace Go.Proofs.Ytfijlgkgbbemnaa
open Go.RowKit
set_option linter.unusedVariables false
set_option linter.unusedSimpArgs false
set_option maxRecDepth 20000

def iv (x : Int) : Value := .int .i64 x
def OwnI (w : World) (base : Nat) (v : Value) (l : List Int) : Prop := w.ownsRow base 3 1 v l.length (l.map iv)
theorem le_alloc2 {n : Nat} {w : World} (h : n ≤ w.heap.size) (o : Obj) : n ≤ (w.alloc o).heap.size := by simp; omega
theorem i64_info : (Try.prog.info? 3).map (fun i => (i.zero, i.size, i.bytes)) = some (some (.int .i64 0), 1, 8) := by kernel_rfl
theorem OwnI.nil (w : World) (base : Nat) : OwnI w base (.slice none 0 0) [] := ⟨rfl, .inl ⟨rfl, rfl⟩⟩
theorem OwnI.ri {w : World} {base : Nat} {v : Value} {l : List Int} (h : OwnI w base v l) (hl : ∀ x ∈ l, I64 x) : ∃ A c, v = .slice A l.length c ∧ RI w w.heap.size A l.length c := by
  rcases h.2 with ⟨hv, h0⟩ | ⟨g, cap, cur, hv, hb, hg, hc1, hc2, hc3, hc4⟩
  · have hl0 : l = [] := List.length_eq_zero_iff.1 h0
    subst hl0
    exact ⟨none, 0, hv, Nat.le_refl _, fun h => absurd h (by simp)⟩
  · refine ⟨_, _, hv, hc1, fun hn => ⟨g, 0, rfl, (Array.getElem?_eq_some_iff.1 hg).1, fun i hi => ⟨l.getD i 0, ?_, ?_⟩⟩⟩
    · rw [List.getD_eq_getElem?_getD, List.getElem?_eq_getElem hi]
      exact hl _ (List.getElem_mem hi)
    · have hcell : cur.toList[i]? = (l.map iv)[i]? := by
        rw [← hc4, List.getElem?_take, if_pos (by omega)]
      rw [Nat.zero_add, World.cell?, hg]
      simp only [← Array.getElem?_toList, hcell, List.getElem?_map]
      simp [List.getD, hi, iv]
theorem one_int (w : World) (x : Int) : RX (w.alloc (.cells #[.int .i64 x] 3)) (w.heap.size + 1) (some ⟨w.heap.size, 0, none⟩) 1 1 1 [iv x] := by
  refine ⟨rfl, Nat.le_refl _, fun _ => ⟨w.heap.size, 0, rfl, by omega, fun j v hj => ?_⟩⟩
  have h : Blk (w.alloc (.cells #[.int .i64 x] 3)) w.heap.size 3 #[.int .i64 x] := Blk.new _ _ _
  rw [Nat.zero_add, h.cell j, ← hj]
  simp [iv]
theorem one_int_cell (x : Int) : ∀ u ∈ [iv x], u.oneCell' = true := by
  intro u hu
  rw [List.mem_singleton.1 hu]
  rfl
set_option maxRecDepth 100000 in
/-- Four hundred numbers, in memory of their own. -/
theorem law_tape14 (k : Nat) (hk : k ≤ 60) (w : World) :
    Calls Try.prog 8 #[.int .i64 (k : Int)] w fun e w' => ∃ A c, e = .returned (.slice A 400 c) ∧ RI w' w'.heap.size A 400 c ∧ Below w.heap.size w w' := by
  go_enter Try.func8, Try.ntmps8
  go_wp2_with fail
  go_loopw [3, 4] (fun v i wr => ∃ (q : Nat) (l : List Int), q ≤ 400 ∧ i = .int .i64 (q : Int) ∧ l.length = q ∧ (∀ x ∈ l, I64 x) ∧ OwnI wr w.heap.size v l ∧ Below w.heap.size w wr) (fun _ i _ => 400 - (intOf i).toNat)
  case atStart => exact ⟨0, [], by omega, rfl, rfl, by simp, OwnI.nil _ _, Below.refl _ _⟩
  case round =>
    obtain ⟨q, l, hq, rfl, hl, hw, ho, hb⟩ := hrel
    by_cases hlt : q < 400
    · have g3 : (q : Int) < 400 := by omega
      have hs := hb.size
      have hl1 := Lib.hid (show l.length + 1 ≤ maxLen by simp only [maxLen]; omega)
      have hl2 := Lib.hid (show (l.length + 1) * 8 ≤ 140737488355328 by omega)
      have hlh := Lib.hid hl
      clear hl
      have hE : I64 ((wrap64 (wrap64 (wrap64 (wrap64 ((q : Int) * (q : Int)) * 7) + (k : Int) * 43) + wrap64 ((q : Int) * (k : Int)))).tmod 211) := by
        have m1 := Int.lt_tmod_of_pos (wrap64 (wrap64 (wrap64 (wrap64 ((q : Int) * (q : Int)) * 7) + (k : Int) * 43) + wrap64 ((q : Int) * (k : Int)))) (show (0 : Int) < 211 by omega)
        have m2 := Int.tmod_lt_of_pos (wrap64 (wrap64 (wrap64 (wrap64 ((q : Int) * (q : Int)) * 7) + (k : Int) * 43) + wrap64 ((q : Int) * (k : Int)))) (show (0 : Int) < 211 by omega)
        unfold I64
        omega
      have hEh := Lib.hid hE
      clear hE
      have oA : OwnI (wr.alloc (.cells #[.int .i64 ((wrap64 (wrap64 (wrap64 (wrap64 ((q : Int) * (q : Int)) * 7) + (k : Int) * 43) + wrap64 ((q : Int) * (k : Int)))).tmod 211)] 3)) w.heap.size _ l := World.ownsRow.alloc ho _
      have rA := one_int wr ((wrap64 (wrap64 (wrap64 (wrap64 ((q : Int) * (q : Int)) * 7) + (k : Int) * 43) + wrap64 ((q : Int) * (k : Int)))).tmod 211)
      have hsA := le_alloc2 hs (.cells #[.int .i64 ((wrap64 (wrap64 (wrap64 (wrap64 ((q : Int) * (q : Int)) * 7) + (k : Int) * 43) + wrap64 ((q : Int) * (k : Int)))).tmod 211)] 3)
      obtain ⟨E, hE0⟩ : ∃ E, E = (wrap64 (wrap64 (wrap64 (wrap64 ((q : Int) * (q : Int)) * 7) + (k : Int) * 43) + wrap64 ((q : Int) * (k : Int)))).tmod 211 := ⟨_, rfl⟩
      rw [← hE0] at oA rA hsA hEh
      go_wp2_with (at_builtin; (rw [← hE0]; go_loud (with_reducible refine wpList_appendX rfl (.tmp 9) (.tmp 22) 23 23 3 rfl rfl _ 1 8 Try.underlying23 i64_info rfl (by decide) w.heap.size _ l.length (l.map iv) (by with_unfolding_all rfl) (by with_unfolding_all exact oA) _ _ 1 1 [iv E] (by with_unfolding_all rfl) rA (one_int_cell _) hl1.out hl2.out hsA ?_); intro v9 w9 ha9))
      have ho9 : OwnI w9 w.heap.size v9 (l ++ [E]) := by
        unfold OwnI
        rw [List.length_append, List.map_append]
        exact ha9.1
      have hb9 := below_grown (hb.trans ((belowA wr (.cells #[.int .i64 E] 3)).mono hs)) hsA ha9.2.1 (fun k hk => (World.ownsRow.lt oA k hk).1)
      clear ho hb ha9 oA rA hsA
      go_roundw
      case rel =>
        refine ⟨q + 1, _, by omega, by first | rfl | (congr 1; omega) | (congr 1; unfold wrap64; omega), ?_, ?_, ho9, hb9⟩
        · rw [List.length_append, hlh.out]; rfl
        · intro x hx
          rcases List.mem_append.1 hx with hx | hx
          · exact hw x hx
          · rw [List.mem_singleton.1 hx]; exact hEh.out
      case measure => simp [intOf]; omega
    · have g3 : ¬ (q : Int) < 400 := by omega
      have hqe : q = 400 := by omega
      obtain ⟨A, c, rfl, hr⟩ := ho.ri hw
      rw [hl, hqe] at hr ⊢
      have hrh := Lib.hid hr
      clear hr ho hqe hl
      go_wp2_with fail
      go_ret
      exact ⟨A, c, rfl, hrh.out, hb⟩
end Go.Proofs.Ytfijlgkgbbemnaa
