/- What contracts of bytes stand on: numbers as bytes, places, new rows, rows that a call owns. No program's function. -/
import Derived.Test.YtdjopbhjfnakdaaOctP
import Derived.Test.YtdjopbhjfnakdaaBaz
import Derived.IntWalk
import Derived.Maps.AppendAt
import Derived.OwnWalk
namespace Go.Proofs.Ytdjopbhjfnakdaa
open Go.RowKit
set_option linter.unusedVariables false
set_option linter.unusedSimpArgs false
set_option maxRecDepth 20000

def szB (n : Int) : Bool := decide (1 ≤ n ∧ n ≤ 8)
def thB (len : Nat) (at' n : Int) : Bool := decide (0 ≤ at' ∧ 0 ≤ n ∧ n ≤ (len : Int) - at')
/-- A new slice of length m, its block known whole. -/
def NewAt (w : World) (m : Nat) (l : List UInt8) (e : Ending) (w' : World) : Prop :=
  ∃ g, e = .returned (.slice (some ⟨g, 0, none⟩) m m) ∧ Len l m ∧ Blk w' g 5 (l.map bv).toArray ∧ w.heap.size ≤ g ∧ Below w.heap.size w w'
def New8 (w : World) (l : List UInt8) (e : Ending) (w' : World) : Prop :=
  ∃ g m, e = .returned (.slice (some ⟨g, 0, none⟩) m m) ∧ Len l m ∧ Blk w' g 5 (l.map bv).toArray ∧ w.heap.size ≤ g ∧ Below w.heap.size w w'
theorem NewAt.new {w w' : World} {m : Nat} {l : List UInt8} {e : Ending} (h : NewAt w m l e w') : New8 w l e w' := by
  obtain ⟨g, h1, h2, h3⟩ := h
  exact ⟨g, m, h1, h2, h3⟩
theorem New8.out {w w' : World} {l : List UInt8} {e : Ending} (h : New8 w l e w') : Out8 w l e w' := by
  obtain ⟨g, m, he, hm, hb, hg, hw⟩ := h
  exact ⟨_, _, _, he, hb.r8 hm (Nat.le_refl _), hw⟩
theorem u8_info : (Try.prog.info? 5).map (fun i => (i.zero, i.size, i.bytes)) = some (some (.int .u8 0), 1, 1) := by kernel_rfl
/-- So many noughts (a name that the walk does not look behind). -/
def zl (n : Nat) : List Value := (List.replicate n (0 : UInt8)).map bv
theorem made_u8 (n : Nat) : madeCells #[Value.int .u8 0] n = (zl n).toArray := by
  unfold zl
  apply Array.ext
  · simp [madeCells]
  · intro i h1 h2
    have : i % 1 = 0 := Nat.mod_one i
    simp [madeCells, bv, this]
theorem run_make8 (n : Nat) (hn : n ≤ 281474976710656) (w : World) :
    (Instr.makeSlice 29 (.int .i64 (n : Int)) (.int .i64 (n : Int))).run Try.prog w = .ok (.slice (some ⟨w.heap.size, 0, none⟩) n n) (w.alloc (.cells (zl n).toArray 5)) := by
  obtain ⟨i0, hi0, hz0, hz1, hz2⟩ := info_parts u8_info
  have h := run_make (P := Try.prog) w 29 5 i0 _ Try.underlying29 hi0 hz0 .i64 .i64 n n (by omega) (by omega) (by rw [hz2]; omega) (by omega)
  rw [h, hz1]
  simp only [Value.cells, Int.toNat_natCast, Nat.mul_one, made_u8]
theorem u8_size : (Try.prog.info? 5).map (·.size) = some 1 := by kernel_rfl
/-- The slice value v owns the bytes l, in a block from base on. -/
def Own8 (w : World) (base : Nat) (v : Value) (l : List UInt8) : Prop := w.ownsRow base 5 1 v l.length (l.map bv)

theorem Own8.r8 {w : World} {base : Nat} {v : Value} {l : List UInt8} (h : Own8 w base v l) : ∃ A c, v = .slice A l.length c ∧ R8 w w.heap.size A l.length c l := by
  rcases h.2 with ⟨rfl, hn⟩ | ⟨g, cap, cur, rfl, hb, hg, hnc, hm, hs, ht⟩
  · have hl : l = [] := List.eq_nil_of_length_eq_zero hn
    subst hl
    exact ⟨none, 0, rfl, R8.nil _ _ _ _⟩
  · refine ⟨_, _, rfl, rfl, hnc, fun hp => ⟨g, 0, rfl, ?_, fun i hi => ?_⟩⟩
    · rcases Nat.lt_or_ge g w.heap.size with h' | h'
      · exact h'
      · rw [Array.getElem?_eq_none h'] at hg; cases hg
    · rw [Nat.zero_add, cell_of_row w g i cur 5 (0, 0) hg]
      have h1 : (cur.toList.take (l.length * 1))[i]? = (l.map bv)[i]? := by rw [ht]
      rw [Nat.mul_one, List.getElem?_take, if_pos hi] at h1
      have h2 : cur[i]? = cur.toList[i]? := by simp
      rw [h2, h1]
      simp [List.getD, hi, bv]


/-- What an append leaves. -/
def App8 (w : World) (base : Nat) (v : Value) (l : List UInt8) (v' : Value) (w' : World) : Prop :=
  Own8 w' base v' l ∧ w.grownBy w' v.ownBlock ∧ (v'.ownBlock = v.ownBlock ∨ v'.ownBlock = some w.heap.size)

set_option maxRecDepth 20000 in
theorem run_append8 (w : World) (base : Nat) (v : Value) (l : List UInt8) (hown : Own8 w base v l) (B : Nat) (A : Option Addr) (m c : Nat) (r : List UInt8) (hr : R8 w B A m c r)
    (hb : l.length + m ≤ 140737488355328) (hbase : base ≤ w.heap.size) :
    ∃ v' w', (Builtin.append_ #[29, 29] 29 #[v, .slice A m c]).run Try.prog w = .ok v' w' ∧ App8 w base v (l ++ r) v' w' := by
  obtain ⟨i0, hi0, hz0, hz1, hz2⟩ := info_parts u8_info
  have hrl := hr.1
  rcases A with _ | ad
  · have hm : m = 0 := by
      rcases Nat.eq_zero_or_pos m with h0 | h0
      · exact h0
      · obtain ⟨b, off, h, _⟩ := hr.2.2 h0
        cases h
    subst hm
    have hn : r = [] := List.eq_nil_of_length_eq_zero hr.1
    subst hn
    exact ⟨v, w, run_append_nil8 w base _ _ 5 i0 1 Try.underlying29 hi0 v _ _ hown c, by rw [List.append_nil]; exact hown, World.grownBy.refl w _, .inl rfl⟩
  · have hcells : ∀ j u, (r.map bv)[j]? = some u → w.cell? (ad.add j) = some u := by
      intro j u hu
      by_cases h0 : 0 < (r.map bv).length
      · obtain ⟨ad', h, hc⟩ := hr.src h0
        injection h with h
        subst h
        exact hc j u hu
      · rw [List.getElem?_eq_none (by omega)] at hu
        cases hu
    obtain ⟨v', w', hrun, h2, h3, _, h5⟩ := run_append_own_at (P := Try.prog) w base 29 29 5 i0 _ 1 1 Try.underlying29 hi0 hz0 hz1 hz2 rfl (by omega) v _ _ hown ad m c (r.map bv) (by simp [hrl]) hcells (bv_one r)
      (by simp only [maxLen]; omega) (by omega) hbase
    refine ⟨v', w', hrun, ?_, h3, h5⟩
    unfold Own8
    rw [List.length_append, hrl, List.map_append]
    exact h2

theorem wpList_append8 {w : World} {ops : Array Oper} {rest : List Oper} {o : Oper} {a : Act} {Q : Exit → Act → World → Prop} (hgd : o.guard = none) (s x : Operand)
    (ho : o.op = .call { callee := .builtin .append, args := #[s, x], argTypes := #[29, 29] }) (hty : o.type = 29)
    (base : Nat) (v : Value) (l : List UInt8) (hs : a.eval s = v) (hown : Own8 w base v l)
    (B : Nat) (A : Option Addr) (m c : Nat) (r : List UInt8) (hx : a.eval x = .slice A m c) (hr : R8 w B A m c r)
    (hb : l.length + m ≤ 140737488355328) (hbase : base ≤ w.heap.size)
    (h : ∀ v' w', App8 w base v (l ++ r) v' w' → wpList Try.prog ops Q rest (a.put o.dst v') w') : wpList Try.prog ops Q (o :: rest) a w :=
  wpList_plain hgd fun K hK => by
    obtain ⟨v', w', hrun, h2⟩ := run_append8 w base v l hown B A m c r hr hb hbase
    unfold Oper.wp execOp
    simp only [ho, hty, resolve, invoke, builtin, Sem.run_bind, Sem.run_pure, Result.andThen_ok, List.map_toArray, List.map_cons, List.map_nil, hs, hx, hrun]
    exact hK _ _ (h v' w' h2)

theorem Own8.empty (w : World) (base : Nat) (hb : base ≤ w.heap.size) : Own8 (w.alloc (.cells #[] 5)) base (.slice (some ⟨w.heap.size, 0, none⟩) 0 0) [] := by
  have := World.ownsRow_made (base := base) (e := 5) (size := 1) w #[] 0 hb (Nat.zero_le _) rfl
  exact this

theorem Own8.out {w w0 : World} {base : Nat} {v : Value} {l : List UInt8} (h : Own8 w base v l) (hb : Below w0.heap.size w0 w) : Out8 w0 l (.returned v) w := by
  obtain ⟨A, c, rfl, hr⟩ := h.r8
  exact ⟨A, _, c, rfl, hr, hb⟩
theorem App8.below {w w0 w' : World} {B base : Nat} {v v' : Value} {l l' : List UInt8} (h : App8 w base v l v' w') (hb : Below B w0 w) (hB : B ≤ w.heap.size) (hown : Own8 w base v l') (hbase : B ≤ base) : Below B w0 w' :=
  hb.grown h.2.1 hB fun k hk => by have := (World.ownsRow.lt hown k hk).1; omega
theorem Own8.alloc {w : World} {base : Nat} {v : Value} {l : List UInt8} (h : Own8 w base v l) (o : Obj) : Own8 (w.alloc o) base v l := World.ownsRow.alloc h o
theorem Own8.drew {w : World} {base : Nat} {v : Value} {l : List UInt8} (h : Own8 w base v l) : Own8 w.drew base v l := h
theorem le_alloc {n : Nat} {w : World} (h : n ≤ w.heap.size) (o : Obj) : n ≤ (w.alloc o).heap.size := by simp; omega
/-- A block of one byte, as it is laid for 'append(out, b)'. -/
theorem one_r8 (w : World) (b : UInt8) (x : Int) (hx : x = (b.toNat : Int)) : R8 (w.alloc (.cells #[.int .u8 x] 5)) (w.heap.size + 1) (some ⟨w.heap.size, 0, none⟩) 1 1 [b] := by
  subst hx
  have h : Blk (w.alloc (.cells #[.int .u8 (b.toNat : Int)] 5)) w.heap.size 5 (([b].map bv).toArray) := Blk.new _ _ _
  have := h.r8 (n := 1) (c := 1) rfl (Nat.le_refl _)
  simpa using this
def getN (l : List UInt8) (i k : Int) : Nat := if szB k = true ∧ thB l.length i k = true then num ((l.drop i.toNat).take k.toNat) else 0
def getB (n : Nat) (i k : Int) : Bool := szB k && thB n i k
def cut8 (l : List UInt8) (i k : Int) : List UInt8 := if thB l.length i k = true then (l.drop i.toNat).take k.toNat else []
def putL (l : List UInt8) (x : Nat) (k : Int) : List UInt8 := if szB k = true then l ++ be x k.toNat else l
def padL (l : List UInt8) (k : Int) : List UInt8 := l ++ List.replicate (padN l.length k) 0
theorem th_nat {n : Nat} {i k : Int} (h : thB n i k = true) : ∃ a b : Nat, i = a ∧ k = b ∧ a + b ≤ n := by
  have h0 : 0 ≤ i ∧ 0 ≤ k ∧ k ≤ (n : Int) - i := by simpa [thB] using h
  exact ⟨i.toNat, k.toNat, by omega, by omega, by omega⟩
theorem sz_nat {k : Int} (h : szB k = true) : ∃ b : Nat, k = b ∧ 1 ≤ b ∧ b ≤ 8 := by
  have h0 : 1 ≤ k ∧ k ≤ 8 := by simpa [szB] using h
  exact ⟨k.toNat, by omega, by omega, by omega⟩
/-- A block laid for a literal reads as its bytes (whatever its mark). -/
theorem lit_r8 (l : List UInt8) (cs : Array Value) (n : Nat) (fr : Nat × Nat) (hn : l.length = n) (h : (l.map bv).toArray = cs) (w : World) :
    R8 (w.alloc (.cells cs 5 fr)) (w.alloc (.cells cs 5 fr)).heap.size (some ⟨w.heap.size, 0, none⟩) n n l := by
  subst h
  refine ⟨hn, Nat.le_refl _, fun _ => ⟨w.heap.size, 0, rfl, by simp, fun i hi => ?_⟩⟩
  rw [Nat.zero_add, World.cell?_alloc_mark]
  have : i < l.length := by omega
  simp [List.getD, this, bv]
theorem lit_r8_at (l : List UInt8) (cs : Array Value) (n g : Nat) (fr : Nat × Nat) (w : World) (hg : g = w.heap.size) (hn : l.length = n) (h : (l.map bv).toArray = cs) :
    R8 (w.alloc (.cells cs 5 fr)) (w.alloc (.cells cs 5 fr)).heap.size (some ⟨g, 0, none⟩) n n l := by
  subst hg
  exact lit_r8 l cs n fr hn h w
theorem R8.take_ {w : World} {B n c : Nat} {A : Option Addr} {l : List UInt8} (h : R8 w B A n c l) (k : Nat) (hk : k ≤ n) : R8 w B A k c (l.take k) := by
  have hl := h.1
  have hc := h.2.1
  refine ⟨by simp; omega, by omega, fun hp => ?_⟩
  obtain ⟨b, off, rfl, hb, hcell⟩ := h.2.2 (by omega)
  refine ⟨b, off, rfl, hb, fun i hi => ?_⟩
  rw [hcell i (by omega)]
  simp [List.getD, List.getElem?_take, hi]
theorem i64_lit (n : Nat) (h : n ≤ 100) : I64 n := by unfold I64; omega
end Go.Proofs.Ytdjopbhjfnakdaa
