/- The given reference's Seen in memory: NewSeen, Add, Lost. -/
import Derived.Test.YtmkbbndfdgnakaaSqR
import Derived.RegionTactic
import Derived.ChangeAlike
import Derived.BigRegion
import Derived.BigQuiet
import Derived.Deep.QuietTactic
namespace Go.Proofs.Ytmkbbndfdgnakaa
open Go.RowKit
set_option linter.unusedVariables false
set_option linter.unusedSimpArgs false
set_option maxRecDepth 20000

/-- Block g holds the reference's Seen that is as s. -/
def SnAt (w : World) (g : Nat) (s : Sn) : Prop := ∃ M : Nat, Blk w g 47 #[.int .i64 s.first, .int .i64 s.last, .int .u64 (M : Int), .int .i64 (hadS s : Int)] ∧ MaskOf s M
theorem SnAt.lt {w : World} {g : Nat} {s : Sn} (h : SnAt w g s) : g < w.heap.size := by obtain ⟨M, h, _⟩ := h; exact h.lt
theorem SnAt.onlyS {w w' : World} {g : Nat} {s : Sn} {T : Nat → Prop} (h : SnAt w g s) (ho : OnlyS T w w') (hd : ¬ T g) : SnAt w' g s := by obtain ⟨M, h, hm⟩ := h; exact ⟨M, h.onlyS ho hd, hm⟩
theorem SnAt.on {w w' : World} {g : Nat} {s : Sn} (h : SnAt w g s) (hb : Below w.heap.size w w') : SnAt w' g s := by obtain ⟨M, h, hm⟩ := h; exact ⟨M, h.below hb h.lt, hm⟩
theorem newS_mask : MaskOf newS 0 := ⟨by decide, fun i hi => by simp [newS]⟩
theorem ref_newSeen (w : World) : Calls Try.prog 19 #[] w fun e w' => e = .returned (.pointer (some ⟨w.heap.size, 0, none⟩)) ∧ SnAt w' w.heap.size newS ∧ Below w.heap.size w w' := by
  go_enter Try.func19, Try.ntmps19
  go_wp2
  go_ret
  exact ⟨rfl, ⟨0, Blk.new _ _ _, newS_mask⟩, belowA _ _⟩
end Go.Proofs.Ytmkbbndfdgnakaa
