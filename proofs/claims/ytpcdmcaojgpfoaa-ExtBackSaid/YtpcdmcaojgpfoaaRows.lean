/-
  No cell of these rows narrows 'for every input' (looked for: loops, veiled, ifaces, maps, wideKeys, modest, calm, conditions, laid).
  DERIVED. THE GIVEN ROWS OF THIS SEAT. 6 by the template 'for every input the law returns true; each argument reads behind the call as it read before'; 0 by the template 'total and deterministic' (their statements: YtpcdmcaojgpfoaaTotals.lean).
  GIVEN WITH THE SEED: the statements are not yours to turn. If you find one false, say at which input.
  Laid BY PROGRAM, IN A SANDBOX (cutbox-rows.mjs): the forced cells as the released guide's own fill.sh prints them over the translation a8b49b3db7bf814c… (all of the seat's roots in one cut). By AI agents, Wed Nov 11 2026. No macro, syntax, notation, axiom, sorry.
-/
import Derived.Test.YtpcdmcaojgpfoaaChecked
import GoSem.Claim
import GoSem.ClaimJoined
import GoSem.ClaimMapViews
import Derived.JoinedTies
import Derived.KernelRfl
namespace Go.Proofs.Ytpcdmcaojgpfoaa
/- THE CELL 'sum', in the pinned program and in every row, IS THE sha256 OF THE DUMP (.gsa) THAT YtpcdmcaojgpfoaaProg.lean LOADS. Nothing in Lean hashes anything: it is a label: what it is worth is what the hold of that sum in a sandbox is worth. -/
noncomputable def Try.pinned : Pinned := { name := "ytpcdmcaojgpfoaa", sum := "a8b49b3db7bf814c7569f28f48effc581f6343041e55f13aebb5eeb61dbf2a27", checked := Try.checked }
namespace Rows
def none {H : Type} : Left H := { results := [], args := [] }

/-- 'limelightlaw3.RtpTells': WHATEVER THE INPUT: true; the input reads as it did. -/
def rtpTellsSpec : ChangeSpec := { name := "rtpTells", fn := fun _ => fun
  | [d1, d2, d3, d4, d5, d6, d7] => { results := [.lit (.bool true)], args := [d1, d2, d3, d4, d5, d6, d7] }
  | _ => none }
def rtpTellsRow : OpenClaim := { program := "ytpcdmcaojgpfoaa", sum := "a8b49b3db7bf814c7569f28f48effc581f6343041e55f13aebb5eeb61dbf2a27", func := "limelight/limelightlaw3.RtpTells", spec := "rtpTells", apart := false }
def RtpTellsSaid : Prop := rtpTellsRow.holds Try.pinned (OpenSpec.ofChange rtpTellsSpec)

/-- ITS FALSE NEIGHBOUR: 'it returns false'. Refute it at one input. -/
def rtpTellsWrong : ChangeSpec := { name := "rtpTells", fn := fun _ => fun
  | [d1, d2, d3, d4, d5, d6, d7] => { results := [.lit (.bool false)], args := [d1, d2, d3, d4, d5, d6, d7] }
  | _ => none }
def RtpTellsWrongFalsely : Prop := rtpTellsRow.holds Try.pinned (OpenSpec.ofChange rtpTellsWrong)

/-- 'limelightlaw4.ExtNumbers': WHATEVER THE INPUT: true; the input reads as it did. -/
def extNumbersSpec : ChangeSpec := { name := "extNumbers", fn := fun _ => fun
  | [] => { results := [.lit (.bool true)], args := [] }
  | _ => none }
def extNumbersRow : OpenClaim := { program := "ytpcdmcaojgpfoaa", sum := "a8b49b3db7bf814c7569f28f48effc581f6343041e55f13aebb5eeb61dbf2a27", func := "limelight/limelightlaw4.ExtNumbers", spec := "extNumbers", apart := false }
def ExtNumbersSaid : Prop := extNumbersRow.holds Try.pinned (OpenSpec.ofChange extNumbersSpec)

/-- ITS FALSE NEIGHBOUR: 'it returns false'. Refute it at one input. -/
def extNumbersWrong : ChangeSpec := { name := "extNumbers", fn := fun _ => fun
  | [] => { results := [.lit (.bool false)], args := [] }
  | _ => none }
def ExtNumbersWrongFalsely : Prop := extNumbersRow.holds Try.pinned (OpenSpec.ofChange extNumbersWrong)

/-- 'limelightlaw4.ExtTells': WHATEVER THE INPUT: true; the input reads as it did. -/
def extTellsSpec : ChangeSpec := { name := "extTells", fn := fun _ => fun
  | [d1, d2, d3, d4, d5, d6, d7] => { results := [.lit (.bool true)], args := [d1, d2, d3, d4, d5, d6, d7] }
  | _ => none }
def extTellsRow : OpenClaim := { program := "ytpcdmcaojgpfoaa", sum := "a8b49b3db7bf814c7569f28f48effc581f6343041e55f13aebb5eeb61dbf2a27", func := "limelight/limelightlaw4.ExtTells", spec := "extTells", apart := false }
def ExtTellsSaid : Prop := extTellsRow.holds Try.pinned (OpenSpec.ofChange extTellsSpec)

/-- ITS FALSE NEIGHBOUR: 'it returns false'. Refute it at one input. -/
def extTellsWrong : ChangeSpec := { name := "extTells", fn := fun _ => fun
  | [d1, d2, d3, d4, d5, d6, d7] => { results := [.lit (.bool false)], args := [d1, d2, d3, d4, d5, d6, d7] }
  | _ => none }
def ExtTellsWrongFalsely : Prop := extTellsRow.holds Try.pinned (OpenSpec.ofChange extTellsWrong)

/-- 'limelightlaw4.ExtBack': WHATEVER THE INPUT: true; the input reads as it did. -/
def extBackSpec : ChangeSpec := { name := "extBack", fn := fun _ => fun
  | [d1, d2, d3] => { results := [.lit (.bool true)], args := [d1, d2, d3] }
  | _ => none }
def extBackRow : OpenClaim := { program := "ytpcdmcaojgpfoaa", sum := "a8b49b3db7bf814c7569f28f48effc581f6343041e55f13aebb5eeb61dbf2a27", func := "limelight/limelightlaw4.ExtBack", spec := "extBack", apart := false }
def ExtBackSaid : Prop := extBackRow.holds Try.pinned (OpenSpec.ofChange extBackSpec)

/-- ITS FALSE NEIGHBOUR: 'it returns false'. Refute it at one input. -/
def extBackWrong : ChangeSpec := { name := "extBack", fn := fun _ => fun
  | [d1, d2, d3] => { results := [.lit (.bool false)], args := [d1, d2, d3] }
  | _ => none }
def ExtBackWrongFalsely : Prop := extBackRow.holds Try.pinned (OpenSpec.ofChange extBackWrong)

/-- 'limelightlaw4.ExtPads': WHATEVER THE INPUT: true; the input reads as it did. -/
def extPadsSpec : ChangeSpec := { name := "extPads", fn := fun _ => fun
  | [d1, d2, d3] => { results := [.lit (.bool true)], args := [d1, d2, d3] }
  | _ => none }
def extPadsRow : OpenClaim := { program := "ytpcdmcaojgpfoaa", sum := "a8b49b3db7bf814c7569f28f48effc581f6343041e55f13aebb5eeb61dbf2a27", func := "limelight/limelightlaw4.ExtPads", spec := "extPads", apart := false }
def ExtPadsSaid : Prop := extPadsRow.holds Try.pinned (OpenSpec.ofChange extPadsSpec)

/-- ITS FALSE NEIGHBOUR: 'it returns false'. Refute it at one input. -/
def extPadsWrong : ChangeSpec := { name := "extPads", fn := fun _ => fun
  | [d1, d2, d3] => { results := [.lit (.bool false)], args := [d1, d2, d3] }
  | _ => none }
def ExtPadsWrongFalsely : Prop := extPadsRow.holds Try.pinned (OpenSpec.ofChange extPadsWrong)

/-- 'limelightlaw4.ExtRids': WHATEVER THE INPUT: true; the input reads as it did. -/
def extRidsSpec : ChangeSpec := { name := "extRids", fn := fun _ => fun
  | [d1, d2] => { results := [.lit (.bool true)], args := [d1, d2] }
  | _ => none }
def extRidsRow : OpenClaim := { program := "ytpcdmcaojgpfoaa", sum := "a8b49b3db7bf814c7569f28f48effc581f6343041e55f13aebb5eeb61dbf2a27", func := "limelight/limelightlaw4.ExtRids", spec := "extRids", apart := false }
def ExtRidsSaid : Prop := extRidsRow.holds Try.pinned (OpenSpec.ofChange extRidsSpec)

/-- ITS FALSE NEIGHBOUR: 'it returns false'. Refute it at one input. -/
def extRidsWrong : ChangeSpec := { name := "extRids", fn := fun _ => fun
  | [d1, d2] => { results := [.lit (.bool false)], args := [d1, d2] }
  | _ => none }
def ExtRidsWrongFalsely : Prop := extRidsRow.holds Try.pinned (OpenSpec.ofChange extRidsWrong)

/- THE SECOND FORM. 'bulk': how many values and letters a reading holds, each counted each time it is reached (what is shared counts as often as it is met; a slice's spare places count too). A statement '..UptoSaid' is the law's where the arguments, and the package variables that the reading takes, are together of bulk at most 1048576: NARROWER than '..Said'. Prove '..Said' where nothing that the law and all that it calls make is longer than what came in: it says more and counts as full. Else prove '..UptoSaid'. A law counts once. -/
mutual
def uptoBulk {H : Type} : DataW H → Nat
  | .lit (.string bytes) => bytes.length + 1
  | .lit _ => 1
  | .nil => 1
  | .ptr d => uptoBulk d + 1
  | .slice elems spare => uptoBulkAll elems + uptoBulkAll spare + 1
  | .agg parts => uptoBulkAll parts + 1
  | .iface _ d => uptoBulk d + 1
  | .map entries => uptoBulkEntries entries + 1
  | .held _ => 1
def uptoBulkAll {H : Type} : List (DataW H) → Nat
  | [] => 0
  | d :: r => uptoBulk d + uptoBulkAll r
def uptoBulkEntries {H : Type} : List (Lit × DataW H) → Nat
  | [] => 0
  | x :: r => uptoBulkEntry x + uptoBulkEntries r
def uptoBulkEntry {H : Type} : Lit × DataW H → Nat
  | (.string bytes, d) => bytes.length + uptoBulk d + 1
  | (_, d) => uptoBulk d + 1
 end
def uptoSmall : (H : Type) → List (DataW H) → Bool := fun _ ds => decide (uptoBulkAll ds ≤ 1048576)
def OpenSpec.upto (s : _root_.Go.ChangeSpec) : _root_.Go.OpenSpec := { _root_.Go.OpenSpec.ofChange s with cond := some uptoSmall }

/-- 'limelightlaw3.RtpTells', WHERE WHAT IT READS IS OF BULK AT MOST 1048576: true; the input reads as it did. -/
def rtpTellsUptoRow : OpenClaim := { program := "ytpcdmcaojgpfoaa", sum := "a8b49b3db7bf814c7569f28f48effc581f6343041e55f13aebb5eeb61dbf2a27", func := "limelight/limelightlaw3.RtpTells", spec := "rtpTells", apart := false, narrowed := true }
def RtpTellsUptoSaid : Prop := rtpTellsUptoRow.holds Try.pinned (OpenSpec.upto rtpTellsSpec)

/-- 'limelightlaw4.ExtNumbers', WHERE WHAT IT READS IS OF BULK AT MOST 1048576: true; the input reads as it did. -/
def extNumbersUptoRow : OpenClaim := { program := "ytpcdmcaojgpfoaa", sum := "a8b49b3db7bf814c7569f28f48effc581f6343041e55f13aebb5eeb61dbf2a27", func := "limelight/limelightlaw4.ExtNumbers", spec := "extNumbers", apart := false, narrowed := true }
def ExtNumbersUptoSaid : Prop := extNumbersUptoRow.holds Try.pinned (OpenSpec.upto extNumbersSpec)

/-- 'limelightlaw4.ExtTells', WHERE WHAT IT READS IS OF BULK AT MOST 1048576: true; the input reads as it did. -/
def extTellsUptoRow : OpenClaim := { program := "ytpcdmcaojgpfoaa", sum := "a8b49b3db7bf814c7569f28f48effc581f6343041e55f13aebb5eeb61dbf2a27", func := "limelight/limelightlaw4.ExtTells", spec := "extTells", apart := false, narrowed := true }
def ExtTellsUptoSaid : Prop := extTellsUptoRow.holds Try.pinned (OpenSpec.upto extTellsSpec)

/-- 'limelightlaw4.ExtBack', WHERE WHAT IT READS IS OF BULK AT MOST 1048576: true; the input reads as it did. -/
def extBackUptoRow : OpenClaim := { program := "ytpcdmcaojgpfoaa", sum := "a8b49b3db7bf814c7569f28f48effc581f6343041e55f13aebb5eeb61dbf2a27", func := "limelight/limelightlaw4.ExtBack", spec := "extBack", apart := false, narrowed := true }
def ExtBackUptoSaid : Prop := extBackUptoRow.holds Try.pinned (OpenSpec.upto extBackSpec)

/-- 'limelightlaw4.ExtPads', WHERE WHAT IT READS IS OF BULK AT MOST 1048576: true; the input reads as it did. -/
def extPadsUptoRow : OpenClaim := { program := "ytpcdmcaojgpfoaa", sum := "a8b49b3db7bf814c7569f28f48effc581f6343041e55f13aebb5eeb61dbf2a27", func := "limelight/limelightlaw4.ExtPads", spec := "extPads", apart := false, narrowed := true }
def ExtPadsUptoSaid : Prop := extPadsUptoRow.holds Try.pinned (OpenSpec.upto extPadsSpec)

/-- 'limelightlaw4.ExtRids', WHERE WHAT IT READS IS OF BULK AT MOST 1048576: true; the input reads as it did. -/
def extRidsUptoRow : OpenClaim := { program := "ytpcdmcaojgpfoaa", sum := "a8b49b3db7bf814c7569f28f48effc581f6343041e55f13aebb5eeb61dbf2a27", func := "limelight/limelightlaw4.ExtRids", spec := "extRids", apart := false, narrowed := true }
def ExtRidsUptoSaid : Prop := extRidsUptoRow.holds Try.pinned (OpenSpec.upto extRidsSpec)

end Rows
end Go.Proofs.Ytpcdmcaojgpfoaa
