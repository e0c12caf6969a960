/- Contracts: limelightref6.words. -/
import Derived.Test.YtnchgmemajmkjaaRcM
import Derived.Test.YtnchgmemajmkjaaCRefPut
import Derived.Deep.Onto
namespace Go.Proofs.Ytnchgmemajmkjaa
open Go.RowKit
set_option linter.unusedVariables false
set_option linter.unusedSimpArgs false
set_option maxRecDepth 20000

theorem own8_base {w : World} {b b' : Nat} {v : Value} {l : List UInt8} (h : Own8 w b v l) (hb : b' ≤ b) : Own8 w b' v l := World.ownsRow.mono h hb
theorem own8_kept {a b : World} {B : Nat} {v : Value} {l : List UInt8} (h : Own8 a B v l) (hb : Below a.heap.size a b) : Own8 b B v l :=
  World.ownsRow.kept (row := none) h ⟨hb.os, hb.tape, hb.output, hb.size, fun k hk _ => hb.block k hk⟩ (by cases hv : v.ownBlock <;> simp)
/-- Put of 4 and of 2 bytes, as a walk spells them. -/
theorem ref_put4 (A : Option Addr) (n c : Nat) (l : List UInt8) (w : World) (h : R8 w w.heap.size A n c l) (hn : n ≤ 140737488351232) (x : Nat) (hx : x < 18446744073709551616) :
    Calls Try.prog 54 #[.slice A n c, .int .u64 x, .int .i64 4] w (OwnOut w (l ++ be x 4)) := ref_put_own A n c l w h hn x 4 (by omega) (by omega) hx
theorem ref_put2 (A : Option Addr) (n c : Nat) (l : List UInt8) (w : World) (h : R8 w w.heap.size A n c l) (hn : n ≤ 140737488351232) (x : Nat) (hx : x < 18446744073709551616) :
    Calls Try.prog 54 #[.slice A n c, .int .u64 x, .int .i64 2] w (OwnOut w (l ++ be x 2)) := ref_put_own A n c l w h hn x 2 (by omega) (by omega) hx
/-- Words as bytes. -/
def wB (l : List Nat) : List UInt8 := l.flatMap (fun x => be x 4)
theorem wB_len (l : List Nat) : (wB l).length = l.length * 4 := flat_length (k := 4) (fun x => be_len 4 x) l
theorem wB_take {l : List Nat} {q : Nat} (h : q < l.length) : wB (l.take q) ++ be l[q] 4 = wB (l.take (q + 1)) := by
  unfold wB
  rw [List.take_add_one, List.flatMap_append, List.getElem?_eq_getElem h]
  simp
theorem R32.at {w : World} {B : Nat} {A : Option Addr} {n c : Nat} {l : List Nat} (h : R32 w B A n c l) {q : Nat} (hq : q < l.length) : ∃ b off, A = some ⟨b, off, none⟩ ∧ b < B ∧ w.cell? ⟨b, off + q, none⟩ = some (.int .u32 (l[q] : Int)) := by
  obtain ⟨b, off, e, hb, hc⟩ := h.2.2.2 (by rw [← h.1]; omega)
  have := hc q (by rw [← h.1]; exact hq)
  rw [List.getD_eq_getElem?_getD, List.getElem?_eq_getElem hq] at this
  exact ⟨b, off, e, hb, this⟩
/-- A block laid for a literal of words. -/
theorem lit_r32 (l : List Nat) (cs : Array Value) (n g : Nat) (w : World) (hg : g = w.heap.size) (hn : l.length = n) (h : (l.map wv).toArray = cs) (hl : ∀ x ∈ l, x < 4294967296) :
    R32 (w.alloc (.cells cs 27)) (w.alloc (.cells cs 27)).heap.size (some ⟨g, 0, none⟩) n n l := by
  subst hg h
  have hB : Blk (w.alloc (.cells (l.map wv).toArray 27)) w.heap.size 27 (l.map wv).toArray := Blk.new _ _ _
  refine ⟨hn, Nat.le_refl _, hl, fun _ => ⟨w.heap.size, 0, rfl, by simp, fun i hi => ?_⟩⟩
  rw [Nat.zero_add, hB.cell i]
  have : i < l.length := by omega
  simp [List.getD, this, wv]
set_option maxHeartbeats 1000000 in
theorem ref6_words (A : Option Addr) (n c : Nat) (l : List Nat) (w : World) (h : R32 w w.heap.size A n c l) (hn : n ≤ 1000000) :
    Calls Try.prog 78 #[.slice A n c] w (OwnOut w (wB l)) := by
  have hL := Lib.hid h.1
  go_enter Try.func78, Try.ntmps78
  go_wp2_with fail
  go_loopw [3, 5, 8] (fun bv' _ i wr => ∃ q : Nat, q ≤ n ∧ i = .int .i64 (q : Int) ∧ Own8 wr w.heap.size bv' (wB (l.take q)) ∧ Below w.heap.size w wr) (fun _ _ i _ => n - (intOf i).toNat)
  case atStart => exact ⟨0, by omega, rfl, World.ownsRow_nil _ _ _ _, Below.refl _ _⟩
  case round =>
    obtain ⟨q, hq, rfl, ho, hbr⟩ := hrel
    by_cases hlt : q < n
    · have g3 : decide ((q : Int) < (n : Int)) = true := by simp; omega
      have hql : q < l.length := by rw [hL.out]; exact hlt
      obtain ⟨b, off, rfl, hbl, k0⟩ := h.at hql
      have c0 := (hbr.cell (p := ⟨b, off + q, none⟩) hbl).trans k0
      have htk := Lib.hid (wB_take hql)
      have hx := h.2.2.1 _ (List.getElem_mem hql)
      have hlen := wB_len (l.take q)
      have hlq : (l.take q).length = q := by rw [List.length_take]; omega
      rw [hlq] at hlen
      obtain ⟨A1, c1, rfl, hr⟩ := ho.r8
      rw [hlen] at hr
      rw [hlen]
      have hput := ref_put4 A1 (q * 4) c1 _ wr hr (by omega) l[q] (by omega)
      have HO := Lib.hid htk
      clear k0 h hr ho hlen hlq htk
      generalize l[q] = x at c0 hput HO hx
      go_wp2_with fail
      ((with_reducible refine hput.mono ?_); rintro e w1 ⟨v1, rfl, ho1, b1⟩)
      have ho2 := own8_base ho1 hbr.size
      rw [HO.out.out] at ho2
      have b2 := hbr.trans (b1.mono hbr.size)
      clear hput c0 ho1 b1 hbr
      go_wp2_with fail
      go_roundw
      case rel => exact ⟨q + 1, by omega, by go_num, ho2, b2⟩
      case measure => simp [intOf]; omega
    · have g3 : ¬ (q : Int) < (n : Int) := by omega
      have ho := ho
      rw [List.take_of_length_le (by rw [hL.out]; omega)] at ho
      clear h
      go_wp2_with fail
      go_ret
      exact ⟨_, rfl, ho, hbr⟩
/-- words of a literal of two, of one: as a walk spells them. -/
theorem words2 (a b : Nat) (x y : Int) (hx : x = (a : Int)) (hy : y = (b : Int)) (ha : a < 4294967296) (hb : b < 4294967296) (V : World) (g : Nat) (hg : g = V.heap.size) :
    Calls Try.prog 78 #[.slice (some ⟨g, 0, none⟩) 2 2] (V.alloc (.cells #[.int .u32 x, .int .u32 y] 27)) (OwnOut (V.alloc (.cells #[.int .u32 x, .int .u32 y] 27)) (wB [a, b])) := by
  subst hx hy
  exact ref6_words _ 2 2 [a, b] _ (lit_r32 [a, b] _ 2 g V hg rfl rfl (by intro z hz; simp at hz; omega)) (by omega)
theorem words1 (a : Nat) (x : Int) (hx : x = (a : Int)) (ha : a < 4294967296) (V : World) (g : Nat) (hg : g = V.heap.size) :
    Calls Try.prog 78 #[.slice (some ⟨g, 0, none⟩) 1 1] (V.alloc (.cells #[.int .u32 x] 27)) (OwnOut (V.alloc (.cells #[.int .u32 x] 27)) (wB [a])) := by
  subst hx
  exact ref6_words _ 1 1 [a] _ (lit_r32 [a] _ 1 g V hg rfl rfl (by intro z hz; simp at hz; omega)) (by omega)
end Go.Proofs.Ytnchgmemajmkjaa
