/- limelightref15's Lost. -/
import Derived.Test.YtmkbbndfdgnakaaSqS
namespace Go.Proofs.Ytmkbbndfdgnakaa
open Go.RowKit
set_option linter.unusedVariables false
set_option linter.unusedSimpArgs false
set_option maxRecDepth 20000

theorem ref_lost (g : Nat) (s : Sn) (m : Nat) (w : World) (h : SnAt w g s) (ok : SnOk s m) (hm : m ≤ 1000000) : Calls Try.prog 21 #[.pointer (some ⟨g, 0, none⟩)] w (Dn (.int .i64 (lostS s)) w) := by
  obtain ⟨M, hb, hM⟩ := h
  obtain ⟨⟨k0, k1, k2⟩, k3⟩ : (w.cell? ⟨g, 0, none⟩ = some (.int .i64 s.first) ∧ w.cell? ⟨g, 1, none⟩ = some (.int .i64 s.last) ∧ w.cell? ⟨g, 2, none⟩ = some (.int .u64 (M : Int))) ∧ w.cell? ⟨g, 3, none⟩ = some (.int .i64 (hadS s : Int)) := ⟨⟨hb.cell 0, hb.cell 1, hb.cell 2⟩, hb.cell 3⟩
  have hf := ok.firstLo
  have hlo := ok.low
  have htop := ok.top
  have hhad : hadS s ≤ 1000000 := Nat.le_trans (Nat.le_trans (List.countP_le_length) ok.len) hm
  have HE : Hid (lostS s = if s.last < 0 then 0 else s.last - s.first + 1 - (hadS s : Int)) := Lib.hid rfl
  generalize lostS s = e at HE ⊢
  generalize hadS s = q at HE k3 hhad
  generalize s.first = f at *
  generalize s.last = l at *
  clear hb hM ok k2
  by_cases hl : l < 0
  · have e0 := HE.out
    rw [if_pos hl] at e0
    subst e0
    clear HE
    go_enter Try.func21, Try.ntmps21
    go_wp2
    go_ret
    exact ⟨rfl, 0, rfl⟩
  · have e0 := HE.out
    rw [if_neg hl] at e0
    have k0 : ∀ n, (w.drewN n).cell? ⟨g, 0, none⟩ = some (.int .i64 f) := fun _ => k0
    have k1' : ∀ n, (w.drewN n).cell? ⟨g, 1, none⟩ = some (.int .i64 l) := fun _ => k1
    have k3 : ∀ n, (w.drewN n).cell? ⟨g, 3, none⟩ = some (.int .i64 (q : Int)) := fun _ => k3
    have HE := Lib.hid e0
    clear e0
    go_enter Try.func21, Try.ntmps21
    go_upto_region 3 with (fail)
    go_quiet (fail)
    go_wp2
    rw [HE.out]
    go_ret
    exact ⟨rfl, _, rfl⟩
end Go.Proofs.Ytmkbbndfdgnakaa
