/- Control messages in memory: what a value of eight cells reads as. No program's function. -/
import Derived.Test.YtgjncaobcgjefaaNb
namespace Go.Proofs.Ytgjncaobcgjefaa
open Go.RowKit
set_option linter.unusedVariables false
set_option linter.unusedSimpArgs false
set_option maxRecDepth 20000

/-- A message's cells; its layers lie at A. -/
def Ctl.cells (x : Ctl) (A : Option Addr) (c : Nat) : Array Value := #[.int .i64 x.kind, .int .i64 x.cap, .slice A x.layers.length c, .int .i64 x.peer, .int .i64 x.height, .int .i64 x.cls, .int .i64 x.layer, .int .i64 x.code]
@[reducible] def Ctl.val (x : Ctl) (A : Option Addr) (c : Nat) : Value := .agg #[.int .i64 x.kind, .int .i64 x.cap, .slice A x.layers.length c, .int .i64 x.peer, .int .i64 x.height, .int .i64 x.cls, .int .i64 x.layer, .int .i64 x.code]
structure IsC (w : World) (B : Nat) (x : Ctl) (A : Option Addr) (c : Nat) : Prop where
  layers : RL w B A x.layers.length c x.layers
  kind : I64 x.kind
  cap : I64 x.cap
  peer : I64 x.peer
  height : I64 x.height
  cls : I64 x.cls
  layer : I64 x.layer
  code : I64 x.code
theorem IsC.on {w w' : World} {x : Ctl} {A : Option Addr} {c : Nat} (h : IsC w w.heap.size x A c) (hb : Below w.heap.size w w') : IsC w' w'.heap.size x A c := { h with layers := h.layers.on hb }
theorem IsC.below {w w' : World} {B : Nat} {x : Ctl} {A : Option Addr} {c : Nat} (h : IsC w B x A c) (hb : Below B w w') : IsC w' B x A c := { h with layers := h.layers.below hb }
theorem IsC.more {w : World} {B B' : Nat} {x : Ctl} {A : Option Addr} {c : Nat} (h : IsC w B x A c) (hb : B ≤ B') : IsC w B' x A c := { h with layers := h.layers.more hb }
theorem blk8 {W : World} {R : Nat} {t : TypeId} {v0 v1 v2 v3 v4 v5 v6 v7 : Value} (h : Blk W R t #[v0, v1, v2, v3, v4, v5, v6, v7]) : W.cell? ⟨R, 0, none⟩ = some v0 ∧ W.cell? ⟨R, 1, none⟩ = some v1 ∧ W.cell? ⟨R, 2, none⟩ = some v2 ∧ W.cell? ⟨R, 3, none⟩ = some v3 ∧ W.cell? ⟨R, 4, none⟩ = some v4 ∧ W.cell? ⟨R, 5, none⟩ = some v5 ∧ W.cell? ⟨R, 6, none⟩ = some v6 ∧ W.cell? ⟨R, 7, none⟩ = some v7 :=
  ⟨h.cell 0, h.cell 1, h.cell 2, h.cell 3, h.cell 4, h.cell 5, h.cell 6, h.cell 7⟩
/-- Two layers that are not the same are unequal. -/
theorem neq_other (x y : Lay) (h : x ≠ y) (W : World) : (binOp .neq 46 x.val y.val).run Try.prog W = .ok (.bool true) W := by
  have hS : Try.prog.underlying 46 = some (.struct (Try.prog.fieldsOf 46)) := by kernel_rfl
  have hp : Try.prog.stoodInHeld 46 = false := by kernel_rfl
  have u0 := Try.underlying9
  have u1 := Try.underlying44
  have u2 := Try.underlying3
  have a0 := Try.isAgg9
  have a1 := Try.isAgg44
  have a2 := Try.isAgg3
  have z0 := Try.sizeOf9
  have z1 := Try.sizeOf44
  have z2 := Try.sizeOf3
  rw [run_neq_struct, show (10000 : Nat) = 9999 + 1 from rfl, run_equalIn_agg W 9999 _ _ _ hS hp]
  simp only [Program.fieldsOf, Try.underlying46]
  obtain ⟨r, s, t⟩ := x
  obtain ⟨r', s', t'⟩ := y
  by_cases h1 : r = r'
  · subst h1
    by_cases h2 : s = s'
    · subst h2
      have h3 : ¬ t = t' := fun e => h (by subst e; rfl)
      have h3' : (t == t') = false := by simpa using h3
      go_simp
    · have h2' : ((s : Int) == (s' : Int)) = false := by simp; omega
      have h2'' : ¬ (s : Int) = (s' : Int) := by omega
      go_simp
  · have h1'' : ¬ r.toList = r'.toList := fun e => h1 (by
      rw [ByteArray.toList_eq, ByteArray.toList_eq] at e
      exact ByteArray.ext (Array.ext' e))
    have h1' : (r.toList == r'.toList) = false := by simpa using h1''
    go_simp
end Go.Proofs.Ytgjncaobcgjefaa
