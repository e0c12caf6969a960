/- append onto a row of any elements that the call owns; rows of words. No program's function. -/
import Derived.Test.YtnchgmemajmkjaaTape
namespace Go.Proofs.Ytnchgmemajmkjaa
open Go.RowKit
set_option linter.unusedVariables false
set_option linter.unusedSimpArgs false
set_option maxRecDepth 20000

def AppG (w : World) (base : Nat) (e : TypeId) (size : Nat) (v : Value) (n : Nat) (xs : List Value) (v' : Value) (w' : World) : Prop :=
  w'.ownsRow base e size v' n xs ∧ w.grownBy w' v.ownBlock ∧ (v'.ownBlock = v.ownBlock ∨ v'.ownBlock = some w.heap.size)
theorem wpList_appendG {P : Program} {w : World} {ops : Array Oper} {rest : List Oper} {o : Oper} {a : Act} {Q : Exit → Act → World → Prop} (hgd : o.guard = none) (s x : Operand) (t ty e : TypeId)
    (ho : o.op = .call { callee := .builtin .append, args := #[s, x], argTypes := #[t, t] }) (hty : o.type = ty)
    (z : Value) (size bytes : Nat) (ht : P.underlying t = some (.slice e)) (hinfo : (P.info? e).map (fun i => (i.zero, i.size, i.bytes)) = some (some z, size, bytes)) (hzs : z.cells.size = size) (hsz : 0 < size)
    (base : Nat) (v : Value) (n : Nat) (xs : List Value) (hs : a.eval s = v) (hown : w.ownsRow base e size v n xs)
    (ad : Addr) (m c : Nat) (news : List Value) (hx : a.eval x = .slice (some ad) m c) (hl : news.length = m * size) (hnews : ∀ j u, news[j]? = some u → w.cell? (ad.add j) = some u) (h1 : ∀ u ∈ news, u.oneCell' = true)
    (h63 : n + m ≤ maxLen) (hbytes : (n + m) * bytes ≤ 140737488355328) (hbase : base ≤ w.heap.size)
    (h : ∀ v' w', AppG w base e size v (n + m) (xs ++ news) v' w' → wpList P ops Q rest (a.put o.dst v') w') : wpList P ops Q (o :: rest) a w :=
  wpList_plain hgd fun K hK => by
    obtain ⟨i0, hi0, hz0, hz1, hz2⟩ := info_parts hinfo
    obtain ⟨v', w', hrun, h2, h3, _, h5⟩ := run_append_own_at (P := P) w base t ty e i0 z size bytes ht hi0 hz0 hz1 hz2 hzs hsz v n xs hown ad m c news hl hnews h1 h63 hbytes hbase
    unfold Oper.wp execOp
    simp only [ho, hty, resolve, invoke, builtin, Sem.run_bind, Sem.run_pure, Result.andThen_ok, List.map_toArray, List.map_cons, List.map_nil, hs, hx, hrun]
    exact hK _ _ (h v' w' ⟨h2, h3, h5⟩)
theorem AppG.below {w w0 w' : World} {B base size n n' : Nat} {e : TypeId} {v v' : Value} {xs xs' : List Value} (h : AppG w base e size v n xs v' w') (hb : Below B w0 w) (hB : B ≤ w.heap.size) (hown : w.ownsRow base e size v n' xs') (hbase : B ≤ base) : Below B w0 w' :=
  hb.grown h.2.1 hB fun k hk => by have := (World.ownsRow.lt hown k hk).1; omega

/-! ### Words -/
def wv (x : Nat) : Value := .int .u32 (x : Int)
def Own32 (w : World) (base : Nat) (v : Value) (l : List Nat) : Prop := w.ownsRow base 27 1 v l.length (l.map wv)
theorem Own32.nil (w : World) (base : Nat) : Own32 w base (.slice none 0 0) [] := ⟨rfl, .inl ⟨rfl, rfl⟩⟩
theorem u32_info : (Try.prog.info? 27).map (fun i => (i.zero, i.size, i.bytes)) = some (some (.int .u32 0), 1, 4) := by kernel_rfl
theorem Own32.r32 {w : World} {base : Nat} {v : Value} {l : List Nat} (h : Own32 w base v l) (hl : ∀ x ∈ l, x < 4294967296) : ∃ A c, v = .slice A l.length c ∧ R32 w w.heap.size A l.length c l := by
  rcases h.2 with ⟨hv, h0⟩ | ⟨g, cap, cur, hv, hb, hg, hc1, hc2, hc3, hc4⟩
  · have hl0 : l = [] := List.length_eq_zero_iff.1 h0
    subst hl0
    exact ⟨none, 0, hv, R32.nil _ _ _ _⟩
  · refine ⟨_, _, hv, rfl, hc1, hl, fun hn => ⟨g, 0, rfl, (Array.getElem?_eq_some_iff.1 hg).1, fun i hi => ?_⟩⟩
    have hcell : cur.toList[i]? = (l.map wv)[i]? := by
      rw [← hc4, List.getElem?_take, if_pos (by omega)]
    rw [Nat.zero_add, World.cell?, hg]
    simp only [← Array.getElem?_toList, hcell, List.getElem?_map]
    simp [List.getD, hi, wv]
/-- A block of one word, as it is laid for 'append(l, x)'. -/
theorem one_word (w : World) (x : Nat) : ∀ j u, [wv x][j]? = some u → (w.alloc (.cells #[.int .u32 (x : Int)] 27)).cell? ((⟨w.heap.size, 0, none⟩ : Addr).add j) = some u := by
  intro j u hj
  match j, hj with
  | 0, hj =>
    simp at hj
    subst hj
    simp [Addr.add, wv]

theorem one_word_cell (x : Nat) : ∀ u ∈ [wv x], u.oneCell' = true := by
  intro u hu
  rw [List.mem_singleton.1 hu]
  rfl
theorem R8.grown {w w' : World} {n c : Nat} {A : Option Addr} {l : List UInt8} {row : Option Nat} (h : R8 w w.heap.size A n c l) (hg : w.grownBy w' row) (hf : ∀ ad, A = some ad → row ≠ some ad.block) : R8 w' w'.heap.size A n c l :=
  ⟨h.1, h.2.1, fun hn => by
    obtain ⟨b, off, e, hlt, hc⟩ := h.2.2 hn
    refine ⟨b, off, e, by have := hg.size; omega, fun i hi => ?_⟩
    rw [← hc i hi]
    exact World.cell?_of_block (hg.block b hlt fun e' => hf _ e e'.symm)⟩
/-- A literal of bytes is a row that the call owns. -/
theorem Own8.lit (w : World) (base : Nat) (b : UInt8) (x : Int) (hx : x = (b.toNat : Int)) (hb : base ≤ w.heap.size) : Own8 (w.alloc (.cells #[.int .u8 x] 5)) base (.slice (some ⟨w.heap.size, 0, none⟩) 1 1) [b] := by
  subst hx
  exact ⟨rfl, .inr ⟨w.heap.size, 1, #[.int .u8 (b.toNat : Int)], rfl, hb, Blk.new _ _ _, Nat.le_refl _, by decide, rfl, rfl⟩⟩
/-- Where an owned row lies. -/
theorem own_block {w : World} {base size n : Nat} {e : TypeId} {A : Option Addr} {m c : Nat} {xs : List Value} (h : w.ownsRow base e size (.slice A m c) n xs) : ∀ ad, A = some ad → base ≤ ad.block ∧ ad.block < w.heap.size := by
  intro ad hA
  subst hA
  exact World.ownsRow.lt h ad.block rfl
end Go.Proofs.Ytnchgmemajmkjaa
