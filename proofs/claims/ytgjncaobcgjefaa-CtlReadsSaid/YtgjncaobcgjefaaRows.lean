/-
  No cell of these rows narrows 'for every input' (looked for: loops, veiled, ifaces, maps, wideKeys, modest, calm, conditions, laid).
  DERIVED. THE GIVEN ROWS OF THIS SEAT. 4 by the template 'for every input the law returns true; each argument reads behind the call as it read before'; 0 by the template 'total and deterministic' (their statements: YtgjncaobcgjefaaTotals.lean).
  GIVEN WITH THE SEED: the statements are not yours to turn. If you find one false, say at which input.
  Laid BY PROGRAM, IN A SANDBOX (cutbox-rows.mjs): the forced cells as the released guide's own fill.sh prints them over the translation b0c41208aa4ff2c4… (all of the seat's roots in one cut). By AI agents, Wed Nov 11 2026. No macro, syntax, notation, axiom, sorry.
-/
import Derived.Test.YtgjncaobcgjefaaChecked
import GoSem.Claim
import GoSem.ClaimJoined
import GoSem.ClaimMapViews
import Derived.JoinedTies
import Derived.KernelRfl
namespace Go.Proofs.Ytgjncaobcgjefaa
/- THE CELL 'sum', in the pinned program and in every row, IS THE sha256 OF THE DUMP (.gsa) THAT YtgjncaobcgjefaaProg.lean LOADS. Nothing in Lean hashes anything: it is a label: what it is worth is what the hold of that sum in a sandbox is worth. -/
noncomputable def Try.pinned : Pinned := { name := "ytgjncaobcgjefaa", sum := "b0c41208aa4ff2c44acc48625fe07d4a31459d54cb5176000c01f97748c960cc", checked := Try.checked }
namespace Rows
def none {H : Type} : Left H := { results := [], args := [] }

/-- 'limelightlaw8.CtlBack': WHATEVER THE INPUT: true; the input reads as it did. -/
def ctlBackSpec : ChangeSpec := { name := "ctlBack", fn := fun _ => fun
  | [d1, d2, d3] => { results := [.lit (.bool true)], args := [d1, d2, d3] }
  | _ => none }
def ctlBackRow : OpenClaim := { program := "ytgjncaobcgjefaa", sum := "b0c41208aa4ff2c44acc48625fe07d4a31459d54cb5176000c01f97748c960cc", func := "limelight/limelightlaw8.CtlBack", spec := "ctlBack", inPlace := ["internal/abi.NoEscape", "internal/bytealg.MakeNoZero"], apart := false }
def CtlBackSaid : Prop := ctlBackRow.holds Try.pinned (OpenSpec.ofChange ctlBackSpec)

/-- ITS FALSE NEIGHBOUR: 'it returns false'. Refute it at one input. -/
def ctlBackWrong : ChangeSpec := { name := "ctlBack", fn := fun _ => fun
  | [d1, d2, d3] => { results := [.lit (.bool false)], args := [d1, d2, d3] }
  | _ => none }
def CtlBackWrongFalsely : Prop := ctlBackRow.holds Try.pinned (OpenSpec.ofChange ctlBackWrong)

/-- 'limelightlaw8.CtlApart': WHATEVER THE INPUT: true; the input reads as it did. -/
def ctlApartSpec : ChangeSpec := { name := "ctlApart", fn := fun _ => fun
  | [d1, d2] => { results := [.lit (.bool true)], args := [d1, d2] }
  | _ => none }
def ctlApartRow : OpenClaim := { program := "ytgjncaobcgjefaa", sum := "b0c41208aa4ff2c44acc48625fe07d4a31459d54cb5176000c01f97748c960cc", func := "limelight/limelightlaw8.CtlApart", spec := "ctlApart", inPlace := ["internal/abi.NoEscape", "internal/bytealg.MakeNoZero"], apart := false }
def CtlApartSaid : Prop := ctlApartRow.holds Try.pinned (OpenSpec.ofChange ctlApartSpec)

/-- ITS FALSE NEIGHBOUR: 'it returns false'. Refute it at one input. -/
def ctlApartWrong : ChangeSpec := { name := "ctlApart", fn := fun _ => fun
  | [d1, d2] => { results := [.lit (.bool false)], args := [d1, d2] }
  | _ => none }
def CtlApartWrongFalsely : Prop := ctlApartRow.holds Try.pinned (OpenSpec.ofChange ctlApartWrong)

/-- 'limelightlaw8.CtlLayers': WHATEVER THE INPUT: true; the input reads as it did. -/
def ctlLayersSpec : ChangeSpec := { name := "ctlLayers", fn := fun _ => fun
  | [d1, d2] => { results := [.lit (.bool true)], args := [d1, d2] }
  | _ => none }
def ctlLayersRow : OpenClaim := { program := "ytgjncaobcgjefaa", sum := "b0c41208aa4ff2c44acc48625fe07d4a31459d54cb5176000c01f97748c960cc", func := "limelight/limelightlaw8.CtlLayers", spec := "ctlLayers", inPlace := ["internal/abi.NoEscape", "internal/bytealg.MakeNoZero"], apart := false }
def CtlLayersSaid : Prop := ctlLayersRow.holds Try.pinned (OpenSpec.ofChange ctlLayersSpec)

/-- ITS FALSE NEIGHBOUR: 'it returns false'. Refute it at one input. -/
def ctlLayersWrong : ChangeSpec := { name := "ctlLayers", fn := fun _ => fun
  | [d1, d2] => { results := [.lit (.bool false)], args := [d1, d2] }
  | _ => none }
def CtlLayersWrongFalsely : Prop := ctlLayersRow.holds Try.pinned (OpenSpec.ofChange ctlLayersWrong)

/-- 'limelightlaw8.CtlReads': WHATEVER THE INPUT: true; the input reads as it did. -/
def ctlReadsSpec : ChangeSpec := { name := "ctlReads", fn := fun _ => fun
  | [d1, d2, d3, d4] => { results := [.lit (.bool true)], args := [d1, d2, d3, d4] }
  | _ => none }
def ctlReadsRow : OpenClaim := { program := "ytgjncaobcgjefaa", sum := "b0c41208aa4ff2c44acc48625fe07d4a31459d54cb5176000c01f97748c960cc", func := "limelight/limelightlaw8.CtlReads", spec := "ctlReads", inPlace := ["internal/abi.NoEscape", "internal/bytealg.MakeNoZero"], apart := false }
def CtlReadsSaid : Prop := ctlReadsRow.holds Try.pinned (OpenSpec.ofChange ctlReadsSpec)

/-- ITS FALSE NEIGHBOUR: 'it returns false'. Refute it at one input. -/
def ctlReadsWrong : ChangeSpec := { name := "ctlReads", fn := fun _ => fun
  | [d1, d2, d3, d4] => { results := [.lit (.bool false)], args := [d1, d2, d3, d4] }
  | _ => none }
def CtlReadsWrongFalsely : Prop := ctlReadsRow.holds Try.pinned (OpenSpec.ofChange ctlReadsWrong)

/- THE SECOND FORM. 'bulk': how many values and letters a reading holds, each counted each time it is reached (what is shared counts as often as it is met; a slice's spare places count too). A statement '..UptoSaid' is the law's where the arguments, and the package variables that the reading takes, are together of bulk at most 1048576: NARROWER than '..Said'. Prove '..Said' where nothing that the law and all that it calls make is longer than what came in: it says more and counts as full. Else prove '..UptoSaid'. A law counts once. -/
mutual
def uptoBulk {H : Type} : DataW H → Nat
  | .lit (.string bytes) => bytes.length + 1
  | .lit _ => 1
  | .nil => 1
  | .ptr d => uptoBulk d + 1
  | .slice elems spare => uptoBulkAll elems + uptoBulkAll spare + 1
  | .agg parts => uptoBulkAll parts + 1
  | .iface _ d => uptoBulk d + 1
  | .map entries => uptoBulkEntries entries + 1
  | .held _ => 1
def uptoBulkAll {H : Type} : List (DataW H) → Nat
  | [] => 0
  | d :: r => uptoBulk d + uptoBulkAll r
def uptoBulkEntries {H : Type} : List (Lit × DataW H) → Nat
  | [] => 0
  | x :: r => uptoBulkEntry x + uptoBulkEntries r
def uptoBulkEntry {H : Type} : Lit × DataW H → Nat
  | (.string bytes, d) => bytes.length + uptoBulk d + 1
  | (_, d) => uptoBulk d + 1
 end
def uptoSmall : (H : Type) → List (DataW H) → Bool := fun _ ds => decide (uptoBulkAll ds ≤ 1048576)
def OpenSpec.upto (s : _root_.Go.ChangeSpec) : _root_.Go.OpenSpec := { _root_.Go.OpenSpec.ofChange s with cond := some uptoSmall }

/-- 'limelightlaw8.CtlBack', WHERE WHAT IT READS IS OF BULK AT MOST 1048576: true; the input reads as it did. -/
def ctlBackUptoRow : OpenClaim := { program := "ytgjncaobcgjefaa", sum := "b0c41208aa4ff2c44acc48625fe07d4a31459d54cb5176000c01f97748c960cc", func := "limelight/limelightlaw8.CtlBack", spec := "ctlBack", inPlace := ["internal/abi.NoEscape", "internal/bytealg.MakeNoZero"], apart := false, narrowed := true }
def CtlBackUptoSaid : Prop := ctlBackUptoRow.holds Try.pinned (OpenSpec.upto ctlBackSpec)

/-- 'limelightlaw8.CtlApart', WHERE WHAT IT READS IS OF BULK AT MOST 1048576: true; the input reads as it did. -/
def ctlApartUptoRow : OpenClaim := { program := "ytgjncaobcgjefaa", sum := "b0c41208aa4ff2c44acc48625fe07d4a31459d54cb5176000c01f97748c960cc", func := "limelight/limelightlaw8.CtlApart", spec := "ctlApart", inPlace := ["internal/abi.NoEscape", "internal/bytealg.MakeNoZero"], apart := false, narrowed := true }
def CtlApartUptoSaid : Prop := ctlApartUptoRow.holds Try.pinned (OpenSpec.upto ctlApartSpec)

/-- 'limelightlaw8.CtlLayers', WHERE WHAT IT READS IS OF BULK AT MOST 1048576: true; the input reads as it did. -/
def ctlLayersUptoRow : OpenClaim := { program := "ytgjncaobcgjefaa", sum := "b0c41208aa4ff2c44acc48625fe07d4a31459d54cb5176000c01f97748c960cc", func := "limelight/limelightlaw8.CtlLayers", spec := "ctlLayers", inPlace := ["internal/abi.NoEscape", "internal/bytealg.MakeNoZero"], apart := false, narrowed := true }
def CtlLayersUptoSaid : Prop := ctlLayersUptoRow.holds Try.pinned (OpenSpec.upto ctlLayersSpec)

/-- 'limelightlaw8.CtlReads', WHERE WHAT IT READS IS OF BULK AT MOST 1048576: true; the input reads as it did. -/
def ctlReadsUptoRow : OpenClaim := { program := "ytgjncaobcgjefaa", sum := "b0c41208aa4ff2c44acc48625fe07d4a31459d54cb5176000c01f97748c960cc", func := "limelight/limelightlaw8.CtlReads", spec := "ctlReads", inPlace := ["internal/abi.NoEscape", "internal/bytealg.MakeNoZero"], apart := false, narrowed := true }
def CtlReadsUptoSaid : Prop := ctlReadsUptoRow.holds Try.pinned (OpenSpec.upto ctlReadsSpec)

end Rows
end Go.Proofs.Ytgjncaobcgjefaa
