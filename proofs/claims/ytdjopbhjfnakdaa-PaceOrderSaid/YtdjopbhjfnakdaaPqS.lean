/- The library's slices.Delete and slices.Clone at this program's types; rows of rows of bytes: what lies where. -/
import Derived.Test.YtdjopbhjfnakdaaRqG
import Derived.Test.YtdjopbhjfnakdaaBuP
import Derived.Shelf.SlicesE.Delete
namespace Go.Proofs.Ytdjopbhjfnakdaa
open Go.RowKit
set_option linter.unusedVariables false
set_option linter.unusedSimpArgs false
set_option maxRecDepth 20000

/-! ### The library's slices.Delete -/
def ren45 : Go.Shelf.Ren := ⟨fun | 45 => 30 | n => n, fun | 0 => 0 | 3 => 3 | 4 => 4 | 22 => 31 | 23 => 29 | n => n, fun n => n⟩
theorem lays45 : Go.Proofs.SlLaysE.n45 Try.prog ren45 := {
  mixed := by kernel_rfl
  f45 := ⟨"slices.Delete[[][]byte,[]byte]", by kernel_rfl, Try.func30.trans (congrArg some (by kernel_rfl))⟩
  t0 := Try.underlying0
  a0 := Try.isAgg0
  z0 := Try.sizeOf0
  v0 := Try.zeroValue0
  t3 := Try.underlying3
  a3 := Try.isAgg3
  z3 := Try.sizeOf3
  v3 := Try.zeroValue3
  t4 := Try.underlying4
  a4 := Try.isAgg4
  z4 := Try.sizeOf4
  v4 := Try.zeroValue4
  t22 := Try.underlying31
  a22 := Try.isAgg31
  z22 := Try.sizeOf31
  v22 := Try.zeroValue31
  a23 := Try.isAgg29
  z23 := Try.sizeOf29 }

/-! ### Rows of slices -/
abbrev Sl := Option Addr × Nat × Nat
def encS (d : Sl) : Value := .slice d.1 d.2.1 d.2.2
theorem encS_one : Go.Proofs.OneCell encS := fun _ => rfl
theorem bs_info : (Try.prog.info? 29).map (fun i => (i.zero, i.size, i.bytes)) = some (some (.slice none 0 0), 1, 24) := by kernel_rfl
theorem encS_all (ds : List Sl) : ∀ u ∈ ds.map encS, u.oneCell' = true := by
  intro u hu
  obtain ⟨x, _, rfl⟩ := List.mem_map.1 hu
  rfl
/-- A row of slices that lies at its block's start. -/
def OwnB (w : World) (base : Nat) (v : Value) (ds : List Sl) : Prop := w.ownsRow base 29 1 v ds.length (ds.map encS)
theorem OwnB.onlyS {w w' : World} {base : Nat} {v : Value} {ds : List Sl} {T : Nat → Prop} (h : OwnB w base v ds) (ho : OnlyS T w w') (hT : ∀ k, v.ownBlock = some k → ¬ T k) : OwnB w' base v ds := by
  refine ⟨h.1, ?_⟩
  rcases h.2 with hn | ⟨g, cap, cur, rfl, hb, hg, rest⟩
  · exact .inl hn
  · exact .inr ⟨g, cap, cur, rfl, hb, (ho.block g (Array.getElem?_eq_some_iff.1 hg).1 (hT g rfl)).trans hg, rest⟩
theorem OwnB.on {w w' : World} {base : Nat} {v : Value} {ds : List Sl} (h : OwnB w base v ds) (hb : Below w.heap.size w w') : OwnB w' base v ds := own_kept h hb
theorem OwnB.val {w : World} {base : Nat} {v : Value} {ds : List Sl} (h : OwnB w base v ds) : ∃ A c, v = .slice A ds.length c ∧ ds.length ≤ c ∧ RX w w.heap.size A ds.length c 1 (ds.map encS) ∧ ∀ ad, A = some ad → base ≤ ad.block := by
  obtain ⟨A, c, e, hr, hb⟩ := own_rx (by simp) h
  exact ⟨A, c, e, hr.2.1, hr, hb⟩
theorem OwnB.nil (w : World) (base : Nat) : OwnB w base (.slice none 0 0) [] := own_nil w base 1 _
theorem OwnB.lt {w : World} {base : Nat} {v : Value} {ds : List Sl} (h : OwnB w base v ds) {k : Nat} (hk : v.ownBlock = some k) : base ≤ k ∧ k < w.heap.size := World.ownsRow.lt h k hk
theorem OwnB.at {w : World} {base : Nat} {A : Option Addr} {n c : Nat} {ds : List Sl} (h : OwnB w base (.slice A n c) ds) {q : Nat} (hq : q < ds.length) : ∃ b off, A = some ⟨b, off, none⟩ ∧ b < w.heap.size ∧ w.cell? ⟨b, off + q, none⟩ = some (encS ds[q]) := by
  obtain ⟨A', c', e, _, hr, _⟩ := h.val
  injection e with e1 e2 e3
  subst e1
  obtain ⟨b, off, rfl, hb, hc⟩ := hr.2.2 (by omega)
  exact ⟨b, off, rfl, hb, hc q _ (by simp [hq])⟩
/-- append of one slice onto such a row. -/
theorem wpList_appendB {w : World} {ops : Array Oper} {rest : List Oper} {o : Oper} {a : Act} {Q : Exit → Act → World → Prop} (hgd : o.guard = none) (s x : Operand)
    (ho : o.op = .call { callee := .builtin .append, args := #[s, x], argTypes := #[31, 31] }) (hty : o.type = 31)
    (base : Nat) (v : Value) (ds : List Sl) (hs : a.eval s = v) (hown : OwnB w base v ds)
    (g : Nat) (d : Sl) (hx : a.eval x = .slice (some ⟨g, 0, none⟩) 1 1) (hg : Blk w g 29 #[encS d])
    (hb : ds.length ≤ 1000000) (hbase : base ≤ w.heap.size)
    (h : ∀ v' w', OwnB w' base v' (ds ++ [d]) ∧ w.grownBy w' v.ownBlock ∧ (v'.ownBlock = v.ownBlock ∨ v'.ownBlock = some w.heap.size) → wpList Try.prog ops Q rest (a.put o.dst v') w') : wpList Try.prog ops Q (o :: rest) a w := by
  refine wpList_appendX hgd s x 31 31 29 ho hty (.slice none 0 0) 1 24 Try.underlying31 bs_info rfl (by omega) base v ds.length (ds.map encS) hs hown w.heap.size (some ⟨g, 0, none⟩) 1 1 [encS d] hx ⟨rfl, Nat.le_refl _, fun _ => ⟨g, 0, rfl, hg.lt, fun j u hj => ?_⟩⟩ (fun u hu => by rw [List.mem_singleton.1 hu]; rfl) (by simp only [maxLen]; omega) (by omega) hbase fun v' w' hA => h v' w' ⟨?_, hA.2.1, hA.2.2⟩
  · rw [Nat.zero_add, hg.cell j, ← hj]
    simp
  · have := hA.1
    unfold OwnB
    rw [List.length_append, List.map_append]
    exact this
/-- The blocks that a row's slices stand on. -/
def bOf : Sl → Option Nat
  | (some ad, n + 1, _) => some ad.block
  | _ => none
def bks (ds : List Sl) : List Nat := ds.filterMap bOf
theorem bks_app (a b : List Sl) : bks (a ++ b) = bks a ++ bks b := List.filterMap_append
theorem bOf_some {ad : Addr} {n c : Nat} (hn : 0 < n) : bOf (some ad, n, c) = some ad.block := by
  obtain ⟨m, rfl⟩ : ∃ m, n = m + 1 := ⟨n - 1, by omega⟩
  rfl
theorem mem_bks {ds : List Sl} {d : Sl} {ad : Addr} (hd : d ∈ ds) (h1 : d.1 = some ad) (h2 : 0 < d.2.1) : ad.block ∈ bks ds := by
  refine List.mem_filterMap.2 ⟨d, hd, ?_⟩
  obtain ⟨A, n, c⟩ := d
  have h1 : A = some ad := h1
  subst h1
  exact bOf_some h2
/-- The row at v holds slices that read as the texts Q, each on a block of its own. -/
structure RowAt (w : World) (v : Value) (ds : List Sl) (Q : Row8) : Prop where
  own : OwnB w 0 v ds
  len : ds.length = Q.length
  rd : ∀ (i : Nat) (d : Sl) (x : List UInt8), ds[i]? = some d → Q[i]? = some x → R8 w w.heap.size d.1 d.2.1 d.2.2 x
  dist : (bks ds).Nodup
  far : ∀ k, v.ownBlock = some k → k ∉ bks ds
theorem r8_onlyS {w w' : World} {A : Option Addr} {n c : Nat} {x : List UInt8} {T : Nat → Prop} (h : R8 w w.heap.size A n c x) (ho : OnlyS T w w') (hT : ∀ ad, A = some ad → 0 < n → ¬ T ad.block) : R8 w' w'.heap.size A n c x := by
  refine ⟨h.1, h.2.1, fun hn0 => ?_⟩
  obtain ⟨b2, off2, e2, hlt, hc2⟩ := h.2.2 hn0
  exact ⟨b2, off2, e2, Nat.lt_of_lt_of_le hlt ho.size, fun j hj => (ho.cell (p := ⟨b2, off2 + j, none⟩) hlt (hT ⟨b2, off2, none⟩ e2 hn0)).trans (hc2 j hj)⟩
theorem RowAt.nil (w : World) : RowAt w (.slice none 0 0) [] [] := ⟨OwnB.nil _ _, rfl, fun i d x h => by simp at h, List.nodup_nil, fun k hk => by simp [Value.ownBlock] at hk⟩
theorem RowAt.keep {w w' : World} {v : Value} {ds : List Sl} {Q : Row8} {T : Nat → Prop} (h : RowAt w v ds Q) (ho : OnlyS T w w') (h1 : ∀ k, v.ownBlock = some k → ¬ T k) (h2 : ∀ k, k ∈ bks ds → ¬ T k) : RowAt w' v ds Q :=
  ⟨h.own.onlyS ho h1, h.len, fun i d x hd hx => r8_onlyS (h.rd i d x hd hx) ho fun ad he hn => h2 _ (mem_bks (List.mem_of_getElem? hd) he hn), h.dist, h.far⟩
theorem RowAt.on {w w' : World} {v : Value} {ds : List Sl} {Q : Row8} (h : RowAt w v ds Q) (hb : Below w.heap.size w w') : RowAt w' v ds Q := h.keep (OnlyS.of (S := fun _ => False) hb) (fun _ _ h => h) (fun _ _ h => h)
theorem RowAt.bk_lt {w : World} {v : Value} {ds : List Sl} {Q : Row8} (h : RowAt w v ds Q) {k : Nat} (hk : k ∈ bks ds) : k < w.heap.size := by
  obtain ⟨d, hd, hb⟩ := List.mem_filterMap.1 hk
  obtain ⟨i, hi, rfl⟩ := List.mem_iff_getElem.1 hd
  have hiQ : i < Q.length := by rw [← h.len]; exact hi
  have hr := h.rd i ds[i] Q[i] (by simp [hi]) (by simp [hiQ])
  generalize ds[i] = d at hr hb
  obtain ⟨A, n, c⟩ := d
  match A, n, hr, hb with
  | none, _, _, hb => simp [bOf] at hb
  | some ad, 0, _, hb => simp [bOf] at hb
  | some ad, n + 1, hr, hb =>
    obtain ⟨b, off, e, hlt, _⟩ := hr.2.2 (by simp)
    have hb : ad.block = k := by simpa [bOf] using hb
    have e : ad = ⟨b, off, none⟩ := by simpa using e
    subst e
    exact hb ▸ hlt
/-- One more is appended: the slice d that reads as x, on a block that is new. -/
theorem RowAt.push {w w1 w2 : World} {v v' : Value} {ds : List Sl} {Q : Row8} {d : Sl} {x : List UInt8} (h : RowAt w v ds Q) (hb : Below w.heap.size w w1) (hx : R8 w1 w1.heap.size d.1 d.2.1 d.2.2 x) (hn : ∀ k, bOf d = some k → w.heap.size ≤ k)
    (ho : OwnB w2 0 v' (ds ++ [d])) (hg : w1.grownBy w2 v.ownBlock) (hv : v'.ownBlock = v.ownBlock ∨ v'.ownBlock = some w1.heap.size) : RowAt w2 v' (ds ++ [d]) (Q ++ [x]) := by
  have hgr : OnlyS (fun k => some k = v.ownBlock) w1 w2 := ⟨hg.os, hg.tape, hg.output, hg.size, fun k hk hn => hg.block k hk hn⟩
  have h1 : RowAt w1 v ds Q := h.on hb
  have hdlt : ∀ k, bOf d = some k → k < w1.heap.size := by
    intro k hk
    obtain ⟨A, n, c⟩ := d
    match A, n, hx, hk with
    | none, _, _, hb => simp [bOf] at hb
    | some ad, 0, _, hb => simp [bOf] at hb
    | some ad, n + 1, hr, hb =>
      obtain ⟨b, off, e, hlt, _⟩ := hr.2.2 (by simp)
      have hb : ad.block = k := by simpa [bOf] using hb
      have e : ad = ⟨b, off, none⟩ := by simpa using e
      subst e
      exact hb ▸ hlt
  have hvlt : ∀ k, v.ownBlock = some k → k < w.heap.size := fun k hk => (h.own.lt hk).2
  have hmem : ∀ k, k ∈ bks (ds ++ [d]) → k ∈ bks ds ∨ bOf d = some k := by
    intro k hk
    rw [bks_app, List.mem_append] at hk
    rcases hk with hk | hk
    · exact .inl hk
    · right
      obtain ⟨d', hd', hb'⟩ := List.mem_filterMap.1 hk
      rwa [List.mem_singleton.1 hd'] at hb'
  refine ⟨ho, by rw [List.length_append, List.length_append, h.len]; rfl, fun i e y he hy => ?_, ?_, fun k hk hm => ?_⟩
  · by_cases hi : i < ds.length
    · rw [List.getElem?_append_left hi] at he
      rw [List.getElem?_append_left (by rw [← h.len]; exact hi)] at hy
      exact r8_onlyS (h1.rd i e y he hy) hgr fun ad hA hn0 (e : some ad.block = _) => h.far _ e.symm (mem_bks (List.mem_of_getElem? he) hA hn0)
    · rw [List.getElem?_append_right (by omega)] at he
      rw [List.getElem?_append_right (by rw [← h.len]; omega)] at hy
      rw [h.len] at he
      have he' := List.mem_singleton.1 (List.mem_of_getElem? he)
      have hy' := List.mem_singleton.1 (List.mem_of_getElem? hy)
      rw [he', hy']
      refine r8_onlyS hx hgr fun ad hA hn0 (e : some ad.block = _) => ?_
      have hbk : bOf d = some ad.block := by
        obtain ⟨A, n, c⟩ := d
        have hA : A = some ad := hA
        subst hA
        exact bOf_some hn0
      have h5 := hn _ hbk
      have h6 := hvlt _ e.symm
      omega
  · rw [bks_app]
    refine List.nodup_append.2 ⟨h.dist, ?_, ?_⟩
    · unfold bks
      cases hb' : bOf d <;> simp [hb']
    · intro a ha b hb' e
      subst e
      have h5 : bOf d = some a := by
        obtain ⟨d', hd', hb''⟩ := List.mem_filterMap.1 hb'
        rwa [List.mem_singleton.1 hd'] at hb''
      have := hn a h5
      have := h.bk_lt ha
      omega
  · rcases hmem k hm with h5 | h5
    · rcases hv with e | e
      · exact h.far k (e ▸ hk) h5
      · rw [e] at hk
        injection hk with hk
        have := h.bk_lt h5
        have := hb.size
        omega
    · rcases hv with e | e
      · have h6 := hvlt k (e ▸ hk)
        have h7 := hn k h5
        omega
      · rw [e] at hk
        injection hk with hk
        have := hdlt k h5
        omega
end Go.Proofs.Ytdjopbhjfnakdaa
