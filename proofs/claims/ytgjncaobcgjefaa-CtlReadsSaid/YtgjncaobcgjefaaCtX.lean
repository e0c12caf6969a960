/- Contract of limelightref8.field: a field behind a row of bytes. -/
import Derived.Test.YtgjncaobcgjefaaCtW
import Derived.Lib.AppendStr
import Derived.Deep.CutRange
import Derived.Deep.Onto
namespace Go.Proofs.Ytgjncaobcgjefaa
open Go.RowKit
set_option linter.unusedVariables false
set_option linter.unusedSimpArgs false
set_option maxRecDepth 20000

theorem R8.grown8 {w w' : World} {n c : Nat} {A : Option Addr} {l : List UInt8} {row : Option Nat} (h : R8 w w.heap.size A n c l) (hg : w.grownBy w' row) (hf : ∀ ad, A = some ad → row ≠ some ad.block) : R8 w' w'.heap.size A n c l :=
  ⟨h.1, h.2.1, fun hn => by
    obtain ⟨b, off, e, hlt, hc⟩ := h.2.2 hn
    refine ⟨b, off, e, by have := hg.size; omega, fun i hi => ?_⟩
    rw [← hc i hi]
    exact World.cell?_of_block (hg.block b hlt fun e' => hf _ e e'.symm)⟩
theorem R8.alloc8 {w : World} {n c : Nat} {A : Option Addr} {l : List UInt8} (h : R8 w w.heap.size A n c l) (o : Obj) : R8 (w.alloc o) (w.alloc o).heap.size A n c l := h.on (below_alloc w o)
theorem Own8.kept8 {a b : World} {B : Nat} {v : Value} {l : List UInt8} (h : Own8 a B v l) (hb : Below a.heap.size a b) : Own8 b B v l := own_kept h hb
theorem Own8.mono8 {w : World} {b b' : Nat} {v : Value} {l : List UInt8} (h : Own8 w b v l) (hb : b' ≤ b) : Own8 w b' v l := World.ownsRow.mono h hb
theorem Own8.r8n {w : World} {base : Nat} {v : Value} {l : List UInt8} (h : Own8 w base v l) : ∃ A c, v = .slice A l.length c ∧ R8 w w.heap.size A l.length c l ∧ ∀ ad, A = some ad → base ≤ ad.block ∧ ad.block < w.heap.size := by
  obtain ⟨A, c, rfl, hr⟩ := h.r8
  exact ⟨A, c, rfl, hr, own_block h⟩
theorem Own8.one (w : World) (base : Nat) (b : UInt8) (x : Int) (hx : x = (b.toNat : Int)) (hb : base ≤ w.heap.size) : Own8 (w.alloc (.cells #[.int .u8 x] 5)) base (.slice (some ⟨w.heap.size, 0, none⟩) 1 1) [b] := by
  subst hx
  exact ⟨rfl, .inr ⟨w.heap.size, 1, #[.int .u8 (b.toNat : Int)], rfl, hb, Blk.new _ _ _, Nat.le_refl _, by decide, rfl, rfl⟩⟩
/-- A row of the call's own, behind base; what lies ahead of base stays. -/
def OwnTo (base : Nat) (w : World) (l : List UInt8) (e : Ending) (w' : World) : Prop := ∃ v, e = .returned v ∧ Own8 w' base v l ∧ Below base w w'
set_option maxHeartbeats 4000000 in
theorem ref8_field {base : Nat} {v : Value} {l : List UInt8} (w : World) (hown : Own8 w base v l) (hbase : base ≤ w.heap.size) (k : UInt8) (kv : Int) (hk : kv = (k.toNat : Int)) (A : Option Addr) (n c : Nat) (x : List UInt8) (hx : R8 w w.heap.size A n c x)
    (hn : n ≤ 255) (hl : l.length ≤ 1000) (hfar : ∀ ad, A = some ad → v.ownBlock ≠ some ad.block) :
    Calls Try.prog 48 #[v, .int .u8 kv, .slice A n c] w (OwnTo base w (l ++ fld k x)) := by
  subst hk
  have hxl := hx.1
  obtain ⟨A0, c0, rfl, hr0⟩ := hown.r8
  have hn8 : ((UInt8.ofNat n).toNat : Int) = (n : Int) := by
    rw [UInt8.toNat_ofNat']
    omega
  have hwn : IntKind.u8.wrap (n : Int) = (n : Int) := by
    simp [IntKind.wrap, IntKind.signed, IntKind.bits]
    omega
  have hcs : (([k, UInt8.ofNat n] : List UInt8).map bv).toArray = #[.int .u8 (k.toNat : Int), .int .u8 (n : Int)] := by
    simp [bv]
    omega
  have HL := Lib.hid (show l.length + 2 ≤ 140737488355328 by omega)
  have HL2 := Lib.hid (show (l ++ [k, UInt8.ofNat n]).length + n ≤ 140737488355328 by simp; omega)
  have hcs := Lib.hid hcs
  have HB := Lib.hid hbase
  clear hr0 hn8 hl hbase
  go_enter Try.func48, Try.ntmps48
  go_wp2_with (at_builtin; first | ((with_reducible refine wpList_append8 rfl (.tmp 7) (.tmp 12) rfl rfl base _ l (by with_unfolding_all rfl) (hown.alloc _) _ _ 2 2 [k, UInt8.ofNat n] (by with_unfolding_all rfl) (lit_r8 [k, UInt8.ofNat n] _ 2 (0, 0) rfl hcs.out w) HL.out (le_alloc HB.out _) ?_); intro v1 w1 ha1; have hx1 := R8.grown8 (R8.alloc8 hx _) ha1.2.1 hfar; have o1 := ha1.1; have b1 := ha1.below ((Below.refl base w).alloc HB.out _) (le_alloc HB.out _) (hown.alloc _) (Nat.le_refl _); have HB1 := Lib.hid b1.size; clear ha1) | ((with_reducible refine wpList_append8 rfl (.tmp 13) (.tmp 14) rfl rfl base _ _ (by with_unfolding_all rfl) o1 _ _ n c x (by with_unfolding_all rfl) hx1 HL2.out (Nat.le_trans HB.out HB1.out) ?_); intro v2 w2 ha2; have o2 := ha2.1; have b2 := ha2.below b1 (Nat.le_trans HB.out HB1.out) o1 (Nat.le_refl _); clear ha2))
  go_ret
  refine ⟨v2, rfl, ?_, b2⟩
  rw [show l ++ fld k x = l ++ [k, UInt8.ofNat n] ++ x by rw [fld, hxl]; simp]
  exact o2
end Go.Proofs.Ytgjncaobcgjefaa
