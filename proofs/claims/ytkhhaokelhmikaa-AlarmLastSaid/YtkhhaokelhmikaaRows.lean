/-
  No cell of these rows narrows 'for every input' (looked for: loops, veiled, ifaces, maps, wideKeys, modest, calm, conditions, laid).
  DERIVED. THE GIVEN ROWS OF THIS SEAT. 4 by the template 'for every input the law returns true; each argument reads behind the call as it read before'; 0 by the template 'total and deterministic' (their statements: YtkhhaokelhmikaaTotals.lean).
  GIVEN WITH THE SEED: the statements are not yours to turn. If you find one false, say at which input.
  Laid BY PROGRAM, IN A SANDBOX (cutbox-rows.mjs): the forced cells as the released guide's own fill.sh prints them over the translation cafc720fa22c6377… (all of the seat's roots in one cut). By AI agents, Wed Nov 11 2026. No macro, syntax, notation, axiom, sorry.
-/
import Derived.Test.YtkhhaokelhmikaaChecked
import GoSem.Claim
import GoSem.ClaimJoined
import GoSem.ClaimMapViews
import Derived.JoinedTies
import Derived.KernelRfl
namespace Go.Proofs.Ytkhhaokelhmikaa
/- THE CELL 'sum', in the pinned program and in every row, IS THE sha256 OF THE DUMP (.gsa) THAT YtkhhaokelhmikaaProg.lean LOADS. Nothing in Lean hashes anything: it is a label: what it is worth is what the hold of that sum in a sandbox is worth. -/
noncomputable def Try.pinned : Pinned := { name := "ytkhhaokelhmikaa", sum := "cafc720fa22c63779474cc968ed8123a65352a448690edbdcb5bcc13d893be62", checked := Try.checked }
namespace Rows
def none {H : Type} : Left H := { results := [], args := [] }

/-- 'limelightlaw12.AlarmNumbers': WHATEVER THE INPUT: true; the input reads as it did. -/
def alarmNumbersSpec : ChangeSpec := { name := "alarmNumbers", fn := fun _ => fun
  | [] => { results := [.lit (.bool true)], args := [] }
  | _ => none }
def alarmNumbersRow : OpenClaim := { program := "ytkhhaokelhmikaa", sum := "cafc720fa22c63779474cc968ed8123a65352a448690edbdcb5bcc13d893be62", func := "limelight/limelightlaw12.AlarmNumbers", spec := "alarmNumbers", unfollowed := true, recurses := true, apart := false }
def AlarmNumbersSaid : Prop := alarmNumbersRow.holds Try.pinned (OpenSpec.ofChange alarmNumbersSpec)

/-- ITS FALSE NEIGHBOUR: 'it returns false'. Refute it at one input. -/
def alarmNumbersWrong : ChangeSpec := { name := "alarmNumbers", fn := fun _ => fun
  | [] => { results := [.lit (.bool false)], args := [] }
  | _ => none }
def AlarmNumbersWrongFalsely : Prop := alarmNumbersRow.holds Try.pinned (OpenSpec.ofChange alarmNumbersWrong)

/-- 'limelightlaw12.AlarmPlays': WHATEVER THE INPUT: true; the input reads as it did. -/
def alarmPlaysSpec : ChangeSpec := { name := "alarmPlays", fn := fun _ => fun
  | [d] => { results := [.lit (.bool true)], args := [d] }
  | _ => none }
def alarmPlaysRow : OpenClaim := { program := "ytkhhaokelhmikaa", sum := "cafc720fa22c63779474cc968ed8123a65352a448690edbdcb5bcc13d893be62", func := "limelight/limelightlaw12.AlarmPlays", spec := "alarmPlays", unfollowed := true, recurses := true, apart := false }
def AlarmPlaysSaid : Prop := alarmPlaysRow.holds Try.pinned (OpenSpec.ofChange alarmPlaysSpec)

/-- ITS FALSE NEIGHBOUR: 'it returns false'. Refute it at one input. -/
def alarmPlaysWrong : ChangeSpec := { name := "alarmPlays", fn := fun _ => fun
  | [d] => { results := [.lit (.bool false)], args := [d] }
  | _ => none }
def AlarmPlaysWrongFalsely : Prop := alarmPlaysRow.holds Try.pinned (OpenSpec.ofChange alarmPlaysWrong)

/-- 'limelightlaw12.AlarmOrder': WHATEVER THE INPUT: true; the input reads as it did. -/
def alarmOrderSpec : ChangeSpec := { name := "alarmOrder", fn := fun _ => fun
  | [d1, d2] => { results := [.lit (.bool true)], args := [d1, d2] }
  | _ => none }
def alarmOrderRow : OpenClaim := { program := "ytkhhaokelhmikaa", sum := "cafc720fa22c63779474cc968ed8123a65352a448690edbdcb5bcc13d893be62", func := "limelight/limelightlaw12.AlarmOrder", spec := "alarmOrder", unfollowed := true, recurses := true, apart := false }
def AlarmOrderSaid : Prop := alarmOrderRow.holds Try.pinned (OpenSpec.ofChange alarmOrderSpec)

/-- ITS FALSE NEIGHBOUR: 'it returns false'. Refute it at one input. -/
def alarmOrderWrong : ChangeSpec := { name := "alarmOrder", fn := fun _ => fun
  | [d1, d2] => { results := [.lit (.bool false)], args := [d1, d2] }
  | _ => none }
def AlarmOrderWrongFalsely : Prop := alarmOrderRow.holds Try.pinned (OpenSpec.ofChange alarmOrderWrong)

/-- 'limelightlaw12.AlarmLast': WHATEVER THE INPUT: true; the input reads as it did. -/
def alarmLastSpec : ChangeSpec := { name := "alarmLast", fn := fun _ => fun
  | [d1, d2] => { results := [.lit (.bool true)], args := [d1, d2] }
  | _ => none }
def alarmLastRow : OpenClaim := { program := "ytkhhaokelhmikaa", sum := "cafc720fa22c63779474cc968ed8123a65352a448690edbdcb5bcc13d893be62", func := "limelight/limelightlaw12.AlarmLast", spec := "alarmLast", unfollowed := true, recurses := true, apart := false }
def AlarmLastSaid : Prop := alarmLastRow.holds Try.pinned (OpenSpec.ofChange alarmLastSpec)

/-- ITS FALSE NEIGHBOUR: 'it returns false'. Refute it at one input. -/
def alarmLastWrong : ChangeSpec := { name := "alarmLast", fn := fun _ => fun
  | [d1, d2] => { results := [.lit (.bool false)], args := [d1, d2] }
  | _ => none }
def AlarmLastWrongFalsely : Prop := alarmLastRow.holds Try.pinned (OpenSpec.ofChange alarmLastWrong)

/- THE SECOND FORM. 'bulk': how many values and letters a reading holds, each counted each time it is reached (what is shared counts as often as it is met; a slice's spare places count too). A statement '..UptoSaid' is the law's where the arguments, and the package variables that the reading takes, are together of bulk at most 1048576: NARROWER than '..Said'. Prove '..Said' where nothing that the law and all that it calls make is longer than what came in: it says more and counts as full. Else prove '..UptoSaid'. A law counts once. -/
mutual
def uptoBulk {H : Type} : DataW H → Nat
  | .lit (.string bytes) => bytes.length + 1
  | .lit _ => 1
  | .nil => 1
  | .ptr d => uptoBulk d + 1
  | .slice elems spare => uptoBulkAll elems + uptoBulkAll spare + 1
  | .agg parts => uptoBulkAll parts + 1
  | .iface _ d => uptoBulk d + 1
  | .map entries => uptoBulkEntries entries + 1
  | .held _ => 1
def uptoBulkAll {H : Type} : List (DataW H) → Nat
  | [] => 0
  | d :: r => uptoBulk d + uptoBulkAll r
def uptoBulkEntries {H : Type} : List (Lit × DataW H) → Nat
  | [] => 0
  | x :: r => uptoBulkEntry x + uptoBulkEntries r
def uptoBulkEntry {H : Type} : Lit × DataW H → Nat
  | (.string bytes, d) => bytes.length + uptoBulk d + 1
  | (_, d) => uptoBulk d + 1
 end
def uptoSmall : (H : Type) → List (DataW H) → Bool := fun _ ds => decide (uptoBulkAll ds ≤ 1048576)
def OpenSpec.upto (s : _root_.Go.ChangeSpec) : _root_.Go.OpenSpec := { _root_.Go.OpenSpec.ofChange s with cond := some uptoSmall }

/-- 'limelightlaw12.AlarmNumbers', WHERE WHAT IT READS IS OF BULK AT MOST 1048576: true; the input reads as it did. -/
def alarmNumbersUptoRow : OpenClaim := { program := "ytkhhaokelhmikaa", sum := "cafc720fa22c63779474cc968ed8123a65352a448690edbdcb5bcc13d893be62", func := "limelight/limelightlaw12.AlarmNumbers", spec := "alarmNumbers", unfollowed := true, recurses := true, apart := false, narrowed := true }
def AlarmNumbersUptoSaid : Prop := alarmNumbersUptoRow.holds Try.pinned (OpenSpec.upto alarmNumbersSpec)

/-- 'limelightlaw12.AlarmPlays', WHERE WHAT IT READS IS OF BULK AT MOST 1048576: true; the input reads as it did. -/
def alarmPlaysUptoRow : OpenClaim := { program := "ytkhhaokelhmikaa", sum := "cafc720fa22c63779474cc968ed8123a65352a448690edbdcb5bcc13d893be62", func := "limelight/limelightlaw12.AlarmPlays", spec := "alarmPlays", unfollowed := true, recurses := true, apart := false, narrowed := true }
def AlarmPlaysUptoSaid : Prop := alarmPlaysUptoRow.holds Try.pinned (OpenSpec.upto alarmPlaysSpec)

/-- 'limelightlaw12.AlarmOrder', WHERE WHAT IT READS IS OF BULK AT MOST 1048576: true; the input reads as it did. -/
def alarmOrderUptoRow : OpenClaim := { program := "ytkhhaokelhmikaa", sum := "cafc720fa22c63779474cc968ed8123a65352a448690edbdcb5bcc13d893be62", func := "limelight/limelightlaw12.AlarmOrder", spec := "alarmOrder", unfollowed := true, recurses := true, apart := false, narrowed := true }
def AlarmOrderUptoSaid : Prop := alarmOrderUptoRow.holds Try.pinned (OpenSpec.upto alarmOrderSpec)

/-- 'limelightlaw12.AlarmLast', WHERE WHAT IT READS IS OF BULK AT MOST 1048576: true; the input reads as it did. -/
def alarmLastUptoRow : OpenClaim := { program := "ytkhhaokelhmikaa", sum := "cafc720fa22c63779474cc968ed8123a65352a448690edbdcb5bcc13d893be62", func := "limelight/limelightlaw12.AlarmLast", spec := "alarmLast", unfollowed := true, recurses := true, apart := false, narrowed := true }
def AlarmLastUptoSaid : Prop := alarmLastUptoRow.holds Try.pinned (OpenSpec.upto alarmLastSpec)

end Rows
end Go.Proofs.Ytkhhaokelhmikaa
