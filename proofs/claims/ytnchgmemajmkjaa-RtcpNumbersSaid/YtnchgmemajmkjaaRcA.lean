/- append onto a row of any elements that the call owns: of a slice that holds any cells; of a string's bytes. No program's function. -/
import Derived.Test.YtnchgmemajmkjaaRcM
import Derived.Lib.AppendStr
namespace Go.Proofs.Ytnchgmemajmkjaa
open Go.RowKit
set_option linter.unusedVariables false
set_option linter.unusedSimpArgs false
set_option maxRecDepth 20000

theorem RX.src {w : World} {B n c size : Nat} {A : Option Addr} {vs : List Value} (h : RX w B A n c size vs) (hn : 0 < n) : ∃ ad, A = some ad ∧ ∀ j v, vs[j]? = some v → w.cell? (ad.add j) = some v := by
  obtain ⟨b, off, rfl, hb, hc⟩ := h.2.2 hn
  refine ⟨_, rfl, fun j v hj => ?_⟩
  have e : (⟨b, off, none⟩ : Addr).add j = ⟨b, off + j, none⟩ := by unfold Addr.add; split <;> simp_all
  rw [e]
  exact hc j v hj
theorem run_appendX {w : World} (base : Nat) (t ty e : TypeId) (z : Value) (size bytes : Nat) (ht : Try.prog.underlying t = some (.slice e)) (hinfo : (Try.prog.info? e).map (fun i => (i.zero, i.size, i.bytes)) = some (some z, size, bytes)) (hzs : z.cells.size = size) (hsz : 0 < size)
    (v : Value) (n : Nat) (xs : List Value) (hown : w.ownsRow base e size v n xs) (B : Nat) (A : Option Addr) (m c : Nat) (vs : List Value) (hr : RX w B A m c size vs) (h1 : ∀ u ∈ vs, u.oneCell' = true)
    (h63 : n + m ≤ maxLen) (hbytes : (n + m) * bytes ≤ 140737488355328) (hbase : base ≤ w.heap.size) :
    ∃ v' w', (Builtin.append_ #[t, t] ty #[v, .slice A m c]).run Try.prog w = .ok v' w' ∧ AppG w base e size v (n + m) (xs ++ vs) v' w' := by
  obtain ⟨i0, hi0, hz0, hz1, hz2⟩ := info_parts hinfo
  rcases A with _ | ad
  · have hm : m = 0 := by
      rcases Nat.eq_zero_or_pos m with h0 | h0
      · exact h0
      · obtain ⟨b, off, h, _⟩ := hr.2.2 h0
        cases h
    subst hm
    have hv : vs = [] := List.eq_nil_of_length_eq_zero (by have := hr.1; omega)
    subst hv
    exact ⟨v, w, run_append_nil8 w base t ty e i0 size ht hi0 v n xs hown c, by rw [List.append_nil]; exact hown, World.grownBy.refl w _, .inl rfl⟩
  · have hcells : ∀ j u, vs[j]? = some u → w.cell? (ad.add j) = some u := by
      intro j u hu
      rcases Nat.eq_zero_or_pos m with h0 | h0
      · have hv : vs = [] := List.eq_nil_of_length_eq_zero (by have := hr.1; rw [h0] at this; omega)
        rw [hv] at hu
        cases hu
      · obtain ⟨ad', h, hc⟩ := hr.src h0
        injection h with h
        subst h
        exact hc j u hu
    obtain ⟨v', w', hrun, h2, h3, _, h5⟩ := run_append_own_at (P := Try.prog) w base t ty e i0 z size bytes ht hi0 hz0 hz1 hz2 hzs hsz v n xs hown ad m c vs hr.1 hcells h1 h63 hbytes hbase
    exact ⟨v', w', hrun, h2, h3, h5⟩
theorem wpList_appendX {w : World} {ops : Array Oper} {rest : List Oper} {o : Oper} {a : Act} {Q : Exit → Act → World → Prop} (hgd : o.guard = none) (s x : Operand) (t ty e : TypeId)
    (ho : o.op = .call { callee := .builtin .append, args := #[s, x], argTypes := #[t, t] }) (hty : o.type = ty)
    (z : Value) (size bytes : Nat) (ht : Try.prog.underlying t = some (.slice e)) (hinfo : (Try.prog.info? e).map (fun i => (i.zero, i.size, i.bytes)) = some (some z, size, bytes)) (hzs : z.cells.size = size) (hsz : 0 < size)
    (base : Nat) (v : Value) (n : Nat) (xs : List Value) (hs : a.eval s = v) (hown : w.ownsRow base e size v n xs)
    (B : Nat) (A : Option Addr) (m c : Nat) (vs : List Value) (hx : a.eval x = .slice A m c) (hr : RX w B A m c size vs) (h1 : ∀ u ∈ vs, u.oneCell' = true)
    (h63 : n + m ≤ maxLen) (hbytes : (n + m) * bytes ≤ 140737488355328) (hbase : base ≤ w.heap.size)
    (h : ∀ v' w', AppG w base e size v (n + m) (xs ++ vs) v' w' → wpList Try.prog ops Q rest (a.put o.dst v') w') : wpList Try.prog ops Q (o :: rest) a w :=
  wpList_plain hgd fun K hK => by
    obtain ⟨v', w', hrun, h2⟩ := run_appendX base t ty e z size bytes ht hinfo hzs hsz v n xs hown B A m c vs hr h1 h63 hbytes hbase
    unfold Oper.wp execOp
    simp only [ho, hty, resolve, invoke, builtin, Sem.run_bind, Sem.run_pure, Result.andThen_ok, List.map_toArray, List.map_cons, List.map_nil, hs, hx, hrun]
    exact hK _ _ (h v' w' h2)
theorem R32.rx {w : World} {B : Nat} {A : Option Addr} {n c : Nat} {l : List Nat} (h : R32 w B A n c l) : RX w B A n c 1 (l.map wv) :=
  ⟨by rw [List.length_map, h.1]; omega, h.2.1, fun hn => by
    obtain ⟨b, off, e, hb, hc⟩ := h.2.2.2 hn
    refine ⟨b, off, e, hb, fun j v hj => ?_⟩
    have hjl : j < l.length := by
      have := (List.getElem?_eq_some_iff.1 hj).1
      simpa using this
    rw [hc j (by rw [← h.1]; exact hjl)]
    simp [hjl, wv] at hj
    simp [List.getD, hjl, hj]⟩
theorem wv_one (l : List Nat) : ∀ u ∈ l.map wv, u.oneCell' = true := by
  intro u hu
  obtain ⟨b, _, rfl⟩ := List.mem_map.1 hu
  rfl
/-- append of words onto a row of words. -/
theorem wpList_append32 {w : World} {ops : Array Oper} {rest : List Oper} {o : Oper} {a : Act} {Q : Exit → Act → World → Prop} (hgd : o.guard = none) (s x : Operand)
    (ho : o.op = .call { callee := .builtin .append, args := #[s, x], argTypes := #[29, 29] }) (hty : o.type = 29)
    (base : Nat) (v : Value) (l : List Nat) (hs : a.eval s = v) (hown : Own32 w base v l)
    (B : Nat) (A : Option Addr) (m c : Nat) (r : List Nat) (hx : a.eval x = .slice A m c) (hr : R32 w B A m c r)
    (hb : l.length + m ≤ 1000000) (hbase : base ≤ w.heap.size)
    (h : ∀ v' w', Own32 w' base v' (l ++ r) ∧ w.grownBy w' v.ownBlock → wpList Try.prog ops Q rest (a.put o.dst v') w') : wpList Try.prog ops Q (o :: rest) a w :=
  wpList_appendX hgd s x 29 29 27 ho hty (.int .u32 0) 1 4 Try.underlying29 u32_info rfl (by omega) base v l.length (l.map wv) hs hown B A m c (r.map wv) hx hr.rx (wv_one r) (by simp only [maxLen]; omega) (by omega) hbase
    fun v' w' ha => h v' w' ⟨by unfold Own32; rw [List.length_append, hr.1, List.map_append]; exact ha.1, ha.2.1⟩
theorem str_bv (l : List UInt8) : Lib.strCells ⟨l.toArray⟩ = l.map bv := by
  simp [Lib.strCells, bv]
/-- append of a string's bytes onto a row of bytes. -/
theorem wpList_appendS {w : World} {ops : Array Oper} {rest : List Oper} {o : Oper} {a : Act} {Q : Exit → Act → World → Prop} (hgd : o.guard = none) (s x : Operand)
    (ho : o.op = .call { callee := .builtin .append, args := #[s, x], argTypes := #[31, 9] })
    (base : Nat) (v : Value) (l : List UInt8) (hs : a.eval s = v) (hown : Own8 w base v l) (r : List UInt8) (hx : a.eval x = .string ⟨r.toArray⟩)
    (hb : l.length + r.length ≤ 1000000) (hbase : base ≤ w.heap.size)
    (h : ∀ v' w', Own8 w' base v' (l ++ r) ∧ w.grownBy w' v.ownBlock → wpList Try.prog ops Q rest (a.put o.dst v') w') : wpList Try.prog ops Q (o :: rest) a w := by
  obtain ⟨i0, hi0, hz0, hz1, hz2⟩ := info_parts u8_info
  have hsz : (⟨r.toArray⟩ : ByteArray).size = r.length := by simp [ByteArray.size]
  refine Lib.wpList_append_own_string w hgd s x 31 9 ho base 5 i0 Try.underlying31 Try.underlying9 hi0 hz0 hz1 hz2 v l.length (l.map bv) hs hown ⟨r.toArray⟩ hx (by rw [hsz]; simp only [maxLen]; omega) (by rw [hsz]; omega) hbase ?_
  intro v' w' h1 h2 _
  refine h v' w' ⟨?_, h2⟩
  unfold Own8
  rw [hsz, str_bv] at h1
  rw [List.length_append, List.map_append]
  exact h1
/-- .. what such a step leaves below. -/
theorem below_grown {w0 w w' : World} {B : Nat} {v : Value} (hb : Below B w0 w) (hB : B ≤ w.heap.size) (hg : w.grownBy w' v.ownBlock) (ho : ∀ k, v.ownBlock = some k → B ≤ k) : Below B w0 w' :=
  hb.grown hg hB fun k hk => by have := ho k hk; omega
/-- A literal of one word is a row that the call owns. -/
theorem own32_lit (w : World) (base : Nat) (x : Nat) (y : Int) (hy : y = (x : Int)) (hb : base ≤ w.heap.size) : Own32 (w.alloc (.cells #[.int .u32 y] 27)) base (.slice (some ⟨w.heap.size, 0, none⟩) 1 1) [x] := by
  subst hy
  exact ⟨rfl, .inr ⟨w.heap.size, 1, #[.int .u32 (x : Int)], rfl, hb, Blk.new _ _ _, Nat.le_refl _, by decide, rfl, rfl⟩⟩
end Go.Proofs.Ytnchgmemajmkjaa
