/- A map of times beside a row of deadlines: what it holds is what the row says. -/
import Derived.Test.YtkhhaokelhmikaaAlO
import Derived.Test.YtkhhaokelhmikaaRu
import Derived.Test.YtkhhaokelhmikaaAlU
import Derived.Maps.OwnSet
import Derived.Maps.OwnOps
namespace Go.Proofs.Ytkhhaokelhmikaa
open Go.RowKit Go.Maps
set_option linter.unusedVariables false
set_option linter.unusedSimpArgs false
set_option maxRecDepth 20000

theorem TbS.other {w0 W W' : World} {G : Nat} {L : List Du} {S T : Nat → Prop} (h : TbS w0 G L S W) (ho : OnlyS T W W') (hd : ∀ k, S k → ¬ T k) (hT : ∀ k, T k → w0.heap.size ≤ k) : TbS w0 G L S W' :=
  ⟨h.tb.keep ho hd, h.keys, h.ins, h.len, h.lo, h.below.trans (ho.below hT h.below.size)⟩
/-- What stands while it is set: the table and the map hold the same. -/
structure Lst (w0 : World) (G Mb q : Nat) (L : List Du) (D : DataW Unit) (S : Nat → Prop) (W : World) : Prop where
  tb : TbS w0 G L S W
  mp : W.ownsMap Try.prog 23 (plainElem Try.prog 2) Mb q D
  rel : MapR L D
  sep : ¬ S Mb
  lo : w0.heap.size ≤ Mb
  len : L.length ≤ q
section
variable {w0 W W' : World} {G Mb q : Nat} {L : List Du} {D : DataW Unit} {S : Nat → Prop}
theorem Lst.on (h : Lst w0 G Mb q L D S W) (hb : Below W.heap.size W W') : Lst w0 G Mb q L D S W' := ⟨h.tb.on hb, ownsMap_below h.mp hb, h.rel, h.sep, h.lo, h.len⟩
end
end Go.Proofs.Ytkhhaokelhmikaa
