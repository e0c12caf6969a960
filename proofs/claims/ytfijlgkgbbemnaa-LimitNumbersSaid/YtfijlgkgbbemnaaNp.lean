/- Reports: what they are, when they are right, their bytes. Plain mathematics. Contract: (*limelightkeep.Tape).Tuple. -/
import Derived.Test.YtfijlgkgbbemnaaOctP
import Derived.Test.YtfijlgkgbbemnaaNt
import Derived.Test.YtfijlgkgbbemnaaRatP
import Derived.Test.YtfijlgkgbbemnaaNm
import Derived.Test.YtfijlgkgbbemnaaNr
namespace Go.Proofs.Ytfijlgkgbbemnaa
set_option linter.unusedVariables false
set_option linter.unusedSimpArgs false

structure Rep where
  kind : Int
  src : Nat
  about : Nat
  tups : List Tup
  abouts : List Nat
  nums : List Int
  rate : Nat
  ty : Int
  count : Int
  body : List UInt8
def Tup.ok (t : Tup) : Bool := !(decide (t.over < 0) || (decide (511 < t.over) || decide (dnN t.rate 17 ≠ t.rate)))
def tupsOk (l : List Tup) : Bool := l.all Tup.ok && decide (l.length ≤ 6)
/-- Is a type and a count one of ours? -/
def oursTC (t c : Int) : Bool := (decide (t = 205) && (decide (c = 3) || decide (c = 4))) || (decide (t = 206) && (decide (c = 1) || (decide (c = 4) || decide (c = 15))))
/-- The fields that a kind has not. -/
def Rep.bare (r : Rep) : Bool :=
  !(decide (r.kind = 6) && decide (r.src ≠ 0)) && (!(decide (r.kind ≠ 3) && decide (r.about ≠ 0)) && (!(decide (r.kind ≠ 1) && (decide (r.kind ≠ 2) && decide (0 < r.tups.length))) &&
  (!(decide (r.kind ≠ 4) && (decide (r.kind ≠ 5) && decide (0 < r.abouts.length))) && (!(decide (r.kind ≠ 4) && decide (0 < r.nums.length)) && (!(decide (r.kind ≠ 5) && decide (r.rate ≠ 0)) &&
  (decide (r.kind = 6) || (decide (r.ty = 0) && (decide (r.count = 0) && decide (r.body.length = 0)))))))))
def Rep.fits (r : Rep) : Bool :=
  if r.kind = 1 ∨ r.kind = 2 then tupsOk r.tups
  else if r.kind = 4 then decide (r.abouts.length = r.nums.length) && (decide (1 ≤ r.abouts.length) && (decide (r.abouts.length ≤ 16) && r.nums.all fun n => decide (0 ≤ n) && decide (n ≤ 255)))
  else if r.kind = 5 then decide (r.abouts.length ≤ 16) && decide (dnN r.rate 18 = r.rate)
  else if r.kind = 6 then decide (192 ≤ r.ty) && (decide (r.ty ≤ 223) && (decide (0 ≤ r.count) && (decide (r.count ≤ 31) && (decide (r.body.length % 4 = 0) && (decide (r.body.length ≤ 262140) && !oursTC r.ty r.count)))))
  else true
def Rep.err (r : Rep) : Int := if r.kind < 1 ∨ 6 < r.kind then 12 else if r.fits = false then 1 else if r.bare = false then 12 else 0
def Tup.bytes (t : Tup) : List UInt8 := be t.owner 4 ++ be (pkE t.rate 17 * 67108864 + pkM t.rate 17 * 512 + t.over.toNat) 4
def Rep.tail (r : Rep) : List UInt8 :=
  if r.kind = 1 ∨ r.kind = 2 then be r.src 4 ++ (be 0 4 ++ r.tups.flatMap Tup.bytes)
  else if r.kind = 3 then be r.src 4 ++ be r.about 4
  else if r.kind = 4 then be r.src 4 ++ (be 0 4 ++ (r.abouts.zip r.nums).flatMap fun x => be x.1 4 ++ be (x.2.toNat * 16777216) 4)
  else if r.kind = 5 then be r.src 4 ++ (be 0 4 ++ ([82, 69, 77, 66] ++ (be (r.abouts.length * 16777216 + pkE r.rate 18 * 262144 + pkM r.rate 18) 4 ++ r.abouts.flatMap fun x => be x 4)))
  else r.body
def Rep.tc (r : Rep) : Int × Int :=
  if r.kind = 1 ∨ r.kind = 2 then (205, 2 + r.kind) else if r.kind = 3 then (206, 1) else if r.kind = 4 then (206, 4) else if r.kind = 5 then (206, 15) else (r.ty, r.count)
def Rep.one (r : Rep) : List UInt8 := [UInt8.ofNat (128 + r.tc.2.toNat), UInt8.ofNat r.tc.1.toNat] ++ (be (r.tail.length / 4) 2 ++ r.tail)
def onesB (l : List Rep) : List UInt8 := l.flatMap Rep.one
def repsErr (l : List Rep) : Int := if l.length = 0 then 1 else match l.find? (fun r => decide (r.err ≠ 0)) with
  | some r => r.err
  | none => if 1500 < (onesB l).length then 3 else 0
def repsB (l : List Rep) : List UInt8 := if repsErr l = 0 then onesB l else []
theorem flat_len {α : Type} (f : α → List UInt8) (k : Nat) (h : ∀ x, (f x).length = k) (l : List α) : (l.flatMap f).length = k * l.length := by
  induction l with
  | nil => simp
  | cons x t ih => rw [List.flatMap_cons, List.length_append, ih, h, List.length_cons, Nat.mul_add]; omega
theorem Tup.bytes_len (t : Tup) : t.bytes.length = 8 := by simp [Tup.bytes, be_len]
/-- What follows a report's head is a whole number of words. -/
theorem Rep.tail_words {r : Rep} (h : r.kind = 6 → r.body.length % 4 = 0) (hk : 1 ≤ r.kind ∧ r.kind ≤ 6) : r.tail.length % 4 = 0 := by
  have h1 := flat_len Tup.bytes 8 Tup.bytes_len r.tups
  have h2 := flat_len (fun x : Nat × Int => be x.1 4 ++ be (x.2.toNat * 16777216) 4) 8 (fun x => by simp [be_len]) (r.abouts.zip r.nums)
  have h3 := flat_len (fun x : Nat => be x 4) 4 (fun x => be_len 4 x) r.abouts
  unfold Rep.tail
  split
  · simp only [List.length_append, be_len, h1]; omega
  · split
    · simp only [List.length_append, be_len]
    · split
      · simp only [List.length_append, be_len, h2]; omega
      · split
        · simp only [List.length_append, be_len, h3, List.length_cons, List.length_nil]; omega
        · exact h (by omega)
theorem Rep.one_len (r : Rep) : r.one.length = 4 + r.tail.length := by
  unfold Rep.one
  simp only [List.length_append, be_len, List.length_cons, List.length_nil]
  omega
end Go.Proofs.Ytfijlgkgbbemnaa
namespace Go.Proofs.Ytfijlgkgbbemnaa
open Go.RowKit
set_option linter.unusedVariables false
set_option linter.unusedSimpArgs false
set_option maxRecDepth 20000

theorem Moves.set {g k i : Nat} {w a : World} (h : Moves g w a) (hg : g < k) (hk : w.heap.size ≤ k) (v : Value) : Moves g w (a.setCell ⟨k, i, none⟩ v) :=
  ⟨Below.setCell h.below (p := ⟨k, i, none⟩) (Nat.le_of_lt hg) v, fun j hj hne => (Below.heap_setCell _ _ _ _ (by simp only; omega)).trans (h.other j hj hne),
    h.tape.keep (Below.setCell (Below.refl g a) (p := ⟨k, i, none⟩) (Nat.le_of_lt hg) v) (Below.heap_setCell _ _ _ _ (by simp only; omega))⟩
/-- A tuple that may be written. -/
def TupleOut (g : Nat) (w : World) (e : Ending) (w' : World) : Prop := ∃ t : Tup, e = .returned (.agg t.cells.toArray) ∧ t.In ∧ t.ok = true ∧ Moves g w w'
/-- .. with its bounds. -/
def TupleOut2 (g : Nat) (w : World) (e : Ending) (w' : World) : Prop := ∃ t : Tup, e = .returned (.agg t.cells.toArray) ∧ t.In ∧ t.ok = true ∧ (t.owner ≤ 9 ∧ t.rate ≤ 16008000 ∧ 0 ≤ t.over ∧ t.over ≤ 120) ∧ Moves g w w'
set_option maxHeartbeats 1000000 in
theorem tape_tuple2 (g : Nat) (w : World) (hT : TapeAt w g) :
    Calls Try.prog 9 #[.pointer (some ⟨g, 0, none⟩)] w (TupleOut2 g w) := by
  have hg := hT.lt
  go_enter Try.func9, Try.ntmps9
  have hb0 := (Below.refl w.heap.size w).alloc (Nat.le_refl _) (.cells #[.int .u32 0, .int .u64 0, .int .i64 0] 31)
  have B0 : Blk (w.alloc (.cells #[.int .u32 0, .int .u64 0, .int .i64 0] 31)) w.heap.size 31 #[.int .u32 0, .int .u64 0, .int .i64 0] := Blk.new _ _ _
  have M0 := Moves.of hT hb0
  have hI9 : I64 9 := by unfold I64; omega
  have hI2 : I64 2000 := by unfold I64; omega
  have hI3 : I64 3 := by unfold I64; omega
  have hI1 : I64 120 := by unfold I64; omega
  clear hb0
  go_wp2_with fail
  generalize w.alloc (.cells #[.int .u32 0, .int .u64 0, .int .i64 0] 31) = W0 at *
  ((with_reducible refine (next_any g 9 _ M0.tape hI9).mono ?_); rintro e w1 ⟨r1, rfl, hr0, hr1, hm1⟩)
  have M1 := M0.trans hm1
  have B1 := (hm1.other _ B0.lt (by omega)).trans B0
  obtain ⟨r1, rfl⟩ : ∃ k : Nat, r1 = k := ⟨r1.toNat, by omega⟩
  clear M0 B0 hm1
  go_wp2_with fail
  ((with_reducible refine (next_any g 2000 _ M1.tape hI2).mono ?_); rintro e w2 ⟨r2, rfl, hq0, hq1, hm2⟩)
  have M2 := M1.trans hm2
  have hl1 : w.heap.size < w1.heap.size := (Array.getElem?_eq_some_iff.1 B1).1
  have B2 := (hm2.other _ hl1 (by omega)).trans B1
  have hl2 : w.heap.size < w2.heap.size := (Array.getElem?_eq_some_iff.1 B2).1
  obtain ⟨r2, rfl⟩ : ∃ k : Nat, r2 = k := ⟨r2.toNat, by omega⟩
  clear M1 B1 hm2 hl1
  go_wp2_with fail
  have hb2 := (Below.refl w2.heap.size w2).alloc (Nat.le_refl _) (.cells #[.int .i64 1, .int .i64 100, .int .i64 8000] 3)
  have L2 : Blk (w2.alloc (.cells #[.int .i64 1, .int .i64 100, .int .i64 8000] 3)) w2.heap.size 3 #[.int .i64 1, .int .i64 100, .int .i64 8000] := Blk.new _ _ _
  have M3 := M2.trans (Moves.of M2.tape hb2)
  have B3 := Blk.alloc B2 (.cells #[.int .i64 1, .int .i64 100, .int .i64 8000] 3)
  have hgl : w2.heap.size ≠ g := by have := M2.tape.lt; omega
  clear hb2 M2 B2
  generalize hL : w2.heap.size = L at *
  have HL := Lib.hid hL
  clear hL
  generalize w2.alloc (.cells #[.int .i64 1, .int .i64 100, .int .i64 8000] 3) = W3 at *
  ((with_reducible refine (next_any g 3 _ M3.tape hI3).mono ?_); rintro e w4 ⟨r3, rfl, hs0, hs1, hm3⟩)
  have M4 := M3.trans hm3
  have B4 := (hm3.other _ (Blk.lt B3) (by omega)).trans B3
  have L4 := (hm3.other _ (Blk.lt L2) hgl).trans L2
  obtain ⟨r3, rfl⟩ : ∃ k : Nat, r3 = k := ⟨r3.toNat, by omega⟩
  obtain ⟨f, hf, hcell⟩ : ∃ f : Nat, f ≤ 8000 ∧ w4.cell? ⟨L, r3, none⟩ = some (.int .i64 (f : Int)) := by
    have hc := Blk.cell L4 r3
    have : r3 = 0 ∨ r3 = 1 ∨ r3 = 2 := by omega
    rcases this with rfl | rfl | rfl
    · exact ⟨1, by omega, hc.trans rfl⟩
    · exact ⟨100, by omega, hc.trans rfl⟩
    · exact ⟨8000, by omega, hc.trans rfl⟩
  have h3i : (r3 : Int) < 3 := by omega
  have h3n : r3 < 3 := by omega
  have hmul : ∃ p : Nat, p ≤ 16008000 ∧ IntKind.u64.wrap ((1 + (r2 : Int)) * (f : Int)) = (p : Int) := by
    refine ⟨(1 + r2) * f, ?_, ?_⟩
    · have : (1 + r2) * f ≤ 2001 * 8000 := Nat.mul_le_mul (by omega) hf
      omega
    · have h1 : (1 + r2) * f ≤ 2001 * 8000 := Nat.mul_le_mul (by omega) hf
      have h2 : (1 + (r2 : Int)) * (f : Int) = (((1 + r2) * f : Nat) : Int) := by push_cast; rfl
      rw [h2, IntKind.wrap_u64]
      omega
  obtain ⟨p, hp2, hpe⟩ := hmul
  have hp : p < 18446744073709551616 := by omega
  have hdown := fun W => ref_down_s p 17 W hp (by omega)
  rw [dnR_in hp (by omega)] at hdown
  have hdb : dnN p (17 : Int).toNat ≤ 16008000 := Nat.le_trans (dnN_le _ _) hp2
  have hdl : dnN p (17 : Int).toNat < 18446744073709551616 := Nat.lt_of_le_of_lt (dnN_le _ _) hp
  have hda := dnN_again p 17
  have ht17 : (17 : Int).toNat = 17 := rfl
  rw [ht17] at hdown hdl hdb
  generalize dnN p 17 = d at hdown hdl hda hdb
  clear M3 B3 hm3 L2 L4 hgl ht17
  go_wp2_with fail
  ((with_reducible refine (hdown w4).mono ?_); rintro e w5 ⟨rfl, rfl⟩)
  clear hdown hpe hp hp2 hcell hf
  go_wp2_with fail
  ((with_reducible refine (next_any g 120 _ M4.tape hI1).mono ?_); rintro e w6 ⟨r6, rfl, ht0, ht1, hm6⟩)
  have M6 := M4.trans hm6
  have B6 := (hm6.other _ (Blk.lt B4) (by omega)).trans B4
  obtain ⟨r6, rfl⟩ : ∃ k : Nat, r6 = k := ⟨r6.toNat, by omega⟩
  have y0 := Blk.cell B6 0
  have y1 := Blk.cell B6 1
  have y2 := Blk.cell B6 2
  have f0 := Blk.frozen B6 0
  have f1 := Blk.frozen B6 1
  have f2 := Blk.frozen B6 2
  simp only [List.getElem?_toArray, List.getElem?_cons_succ, List.getElem?_cons_zero] at y0 y1 y2
  clear M4 B4 hm6
  go_wp2_with fail
  have M7 := ((M6.set (i := 0) hg (Nat.le_refl _) (.int .u32 (r1 : Int))).set (i := 1) hg (Nat.le_refl _) (.int .u64 (d : Int))).set (i := 2) hg (Nat.le_refl _) (.int .i64 (r6 : Int))
  have B7 := ((Blk.set_ B6 0 (.int .u32 (r1 : Int))).set_ 1 (.int .u64 (d : Int))).set_ 2 (.int .i64 (r6 : Int))
  generalize ((w6.setCell ⟨w.heap.size, 0, none⟩ (.int .u32 (r1 : Int))).setCell ⟨w.heap.size, 1, none⟩ (.int .u64 (d : Int))).setCell ⟨w.heap.size, 2, none⟩ (.int .i64 (r6 : Int)) = W7 at *
  have k0 : W7.cell? ⟨w.heap.size, 0, none⟩ = some (.int .u32 (r1 : Int)) := (B7.cell 0).trans rfl
  have k1 : W7.cell? ⟨w.heap.size, 1, none⟩ = some (.int .u64 (d : Int)) := (B7.cell 1).trans rfl
  have k2 : W7.cell? ⟨w.heap.size, 2, none⟩ = some (.int .i64 (r6 : Int)) := (B7.cell 2).trans rfl
  refine bodyPost_ret (by simp [results, Try.results9, go_sem, k0, k1, k2]; try rfl) rfl ?_
  refine ⟨⟨r1, d, r6⟩, rfl, ⟨by simp only; omega, hdl, by unfold I64; simp only; omega⟩, ?_, ⟨by simp only; omega, hdb, by simp only; omega, by simp only; omega⟩, M7⟩
  unfold Tup.ok
  simp [hda]
  omega
theorem tape_tuple (g : Nat) (w : World) (hT : TapeAt w g) :
    Calls Try.prog 9 #[.pointer (some ⟨g, 0, none⟩)] w (TupleOut g w) := (tape_tuple2 g w hT).mono fun _ _ ⟨t, h1, h2, h3, _, h4⟩ => ⟨t, h1, h2, h3, h4⟩
end Go.Proofs.Ytfijlgkgbbemnaa
