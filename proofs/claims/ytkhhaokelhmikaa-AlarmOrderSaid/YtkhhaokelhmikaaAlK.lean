/- Law 12's helper: known; what holds of a table between calls. -/
import Derived.Test.YtkhhaokelhmikaaAlI
namespace Go.Proofs.Ytkhhaokelhmikaa
open Go.RowKit
set_option linter.unusedVariables false
set_option linter.unusedSimpArgs false
set_option maxRecDepth 20000

/-- A table of deadlines, with all that is known of it; its blocks were made since w0. -/
structure TbS (w0 : World) (G : Nat) (L : List Du) (S : Nat → Prop) (W : World) : Prop where
  tb : TbAt W G L S
  keys : Keys L
  ins : InD L
  len : L.length ≤ 100000
  lo : ∀ k, S k → w0.heap.size ≤ k
  below : Below w0.heap.size w0 W
section
variable {w0 W W' : World} {G : Nat} {L L' : List Du} {S : Nat → Prop} {e : Ending} {v : Value}
theorem TbS.on (h : TbS w0 G L S W) (hb : Below W.heap.size W W') : TbS w0 G L S W' :=
  ⟨h.tb.keep (OnlyS.of (S := fun _ => False) hb) (fun _ _ h => h), h.keys, h.ins, h.len, h.lo, h.below.trans (hb.mono h.below.size)⟩
theorem TbS.turn (h : TbS w0 G L S W) {S' : Nat → Prop} (ht : TbAt W' G L' S') (hS : ∀ k, S' k → S k ∨ W.heap.size ≤ k) (ho : OnlyS S W W') (hk : Keys L') (hi : InD L') (hl : L'.length ≤ 100000) : TbS w0 G L' S' W' :=
  ⟨ht, hk, hi, hl, fun k hk => by
    rcases hS k hk with h1 | h1
    · exact h.lo k h1
    · exact Nat.le_trans h.below.size h1, h.below.trans (ho.below h.lo h.below.size)⟩
theorem TbS.out (h : TbS w0 G L S W) (ho : TbOut G L' S v W e W') (hk : Keys L') (hi : InD L') (hl : L'.length ≤ 100000) : e = .returned v ∧ ∃ S', TbS w0 G L' S' W' ∧ (∀ k, S' k → S k ∨ W.heap.size ≤ k) ∧ OnlyS S W W' := by
  obtain ⟨h1, S', h2, h3, h4⟩ := ho
  exact ⟨h1, S', h.turn h2 h3 h4 hk hi hl, h3, h4⟩
end
theorem tb_set_at {w : World} {G : Nat} {L : List Du} {S : Nat → Prop} (h : TbAt w G L S) (hk : Keys L) (hi : InD L) (hl : L.length ≤ 100000) {k : Nat} {K : Int} (hK : (k : Int) = K) {t : Int} (hk2 : k < 18446744073709551616) (ht : I64 t) : Calls Try.prog 10 #[.pointer (some ⟨G, 0, none⟩), .int .u64 K, .int .i64 t] w (TbOut G (setK L k t) S (.tuple #[]) w) := by
  subst hK
  exact tb_set h hk hi hl hk2 ht
theorem tb_clear_at {w : World} {G : Nat} {L : List Du} {S : Nat → Prop} (h : TbAt w G L S) (hk : Keys L) (hi : InD L) (hl : L.length ≤ 100000) {k : Nat} {K : Int} (hK : (k : Int) = K) (hk2 : k < 18446744073709551616) : Calls Try.prog 15 #[.pointer (some ⟨G, 0, none⟩), .int .u64 K] w (TbOut G (dropK L k) S (.bool (hasK L k)) w) := by
  subst hK
  exact tb_clear h hk hi hl hk2
theorem keys_1 (a : Du) : Keys [a] := by simp [Keys]
set_option maxHeartbeats 4000000 in
theorem known12_any (w : World) : Calls Try.prog 8 #[] w (Yes w) := by
  have IC := Lib.hid (fun (k : Int) (h1 : -100000 ≤ k) (h2 : k ≤ 100000) => (by unfold I64; omega : I64 k))
  go_enter Try.func8, Try.ntmps8
  go_wp2_with fail
  refine (tb_new _).mono ?_
  rintro e w1 ⟨G, S, rfl, p0, hS, b0⟩
  have H0 : TbS w G [] S w1 := ⟨p0, keys_nil, (fun x hx => by cases hx), (by simp), hS, b0⟩
  clear p0 hS b0
  go_wp2_with fail
  ((with_reducible refine (tb_next H0.tb H0.keys H0.ins H0.len).mono ?_); rintro e w2 ho)
  obtain ⟨rfl, S2, H2, _, _⟩ := H0.out ho H0.keys H0.ins H0.len
  clear H0 ho
  have H2 := H2.on (belowA w2 (.cells #[.int .i64 0, .int .u64 0] 35))
  have HH := Lib.hid H2
  clear H2
  rw [show (firstD []).val = .agg #[.int .i64 0, .int .u64 0] from rfl]
  go_wp2_with fail
  ((with_reducible refine (tb_clear_at (k := 1) (K := 1) HH.out.tb HH.out.keys HH.out.ins HH.out.len rfl (by omega)).mono ?_); rintro e w3 ho)
  obtain ⟨rfl, S3, H3, _, _⟩ := HH.out.out ho (dropK_keys HH.out.keys 1) (dropK_in HH.out.ins 1) (by simp [dropK])
  clear HH ho
  rw [show dropK [] 1 = [] from rfl] at H3
  rw [show hasK [] 1 = false from rfl]
  go_wp2_with fail
  ((with_reducible refine (tb_set_at (k := 1) (K := 1) (t := 5) H3.tb H3.keys H3.ins H3.len rfl (by omega) (IC.out _ (by omega) (by omega))).mono ?_); rintro e w4 ho)
  obtain ⟨rfl, S4, H4, _, _⟩ := H3.out ho (setK_keys H3.keys 1 5) (setK_in H3.ins (by omega) (IC.out _ (by omega) (by omega))) (by simp [setK, dropK])
  clear H3 ho
  rw [show setK [] 1 5 = [⟨5, 1⟩] from rfl] at H4
  go_wp2_with fail
  ((with_reducible refine (tb_set_at (k := 1) (K := 1) (t := 7) H4.tb H4.keys H4.ins H4.len rfl (by omega) (IC.out _ (by omega) (by omega))).mono ?_); rintro e w5 ho)
  obtain ⟨rfl, S5, H5, _, _⟩ := H4.out ho (setK_keys H4.keys 1 7) (setK_in H4.ins (by omega) (IC.out _ (by omega) (by omega))) (by simp [setK, dropK])
  clear H4 ho
  rw [show setK [⟨5, 1⟩] 1 7 = [⟨7, 1⟩] from rfl] at H5
  go_wp2_with fail
  ((with_reducible refine (tb_due (now := 6) H5.tb H5.keys H5.ins H5.len (IC.out _ (by omega) (by omega))).mono ?_); rintro e w6 ⟨A, n, c, R, S6, rfl, hR, rd, hA, t6, hS6, ho6⟩)
  obtain ⟨hR0, hL0⟩ := hR.done (.inr (by decide))
  rw [hL0] at t6
  have hn0 : n = 0 := by rw [← rd.1, hR0]; rfl
  subst hn0
  have H6 := H5.turn t6 hS6 ho6 H5.keys H5.ins H5.len
  clear H5 hR rd hA t6 hS6 ho6 hR0 hL0
  go_wp2_with fail
  ((with_reducible refine (tb_set_at (k := 2) (K := 2) (t := 7) H6.tb H6.keys H6.ins H6.len rfl (by omega) (IC.out _ (by omega) (by omega))).mono ?_); rintro e w7 ho)
  obtain ⟨rfl, S7, H7, _, _⟩ := H6.out ho (setK_keys H6.keys 2 7) (setK_in H6.ins (by omega) (IC.out _ (by omega) (by omega))) (by simp [setK, dropK])
  clear H6 ho
  rw [show setK [⟨7, 1⟩] 2 7 = [⟨7, 1⟩, ⟨7, 2⟩] from rfl] at H7
  go_wp2_with fail
  ((with_reducible refine (tb_due (now := 7) H7.tb H7.keys H7.ins H7.len (IC.out _ (by omega) (by omega))).mono ?_); rintro e w8 ⟨A, n, c, R, S8, rfl, hR, rd, hA, t8, hS8, ho8⟩)
  obtain ⟨r, rfl⟩ := hR.more (by decide) (by decide)
  have hr := hR.step H7.keys
  rw [show firstD [⟨7, 1⟩, ⟨7, 2⟩] = ⟨7, 1⟩ from rfl] at hr rd
  rw [show dropK [⟨7, 1⟩, ⟨7, 2⟩] (Du.k ⟨7, 1⟩) = [⟨7, 2⟩] from rfl] at hr
  obtain ⟨r2, rfl⟩ := hr.more (by decide) (by decide)
  have hr2 := hr.step (keys_1 _)
  rw [show firstD [⟨7, 2⟩] = ⟨7, 2⟩ from rfl] at hr2 rd
  rw [show dropK [⟨7, 2⟩] (Du.k ⟨7, 2⟩) = [] from rfl] at hr2
  obtain ⟨rfl, _⟩ := hr2.done (.inl rfl)
  have hn2 : n = 2 := by rw [← rd.1]; rfl
  subst hn2
  rw [show lateK [⟨7, 1⟩, ⟨7, 2⟩] 7 = [] from rfl] at t8
  obtain ⟨b, off, rfl, hb, hc⟩ := rd.getD (by omega)
  obtain ⟨x0, x1⟩ := hc 0 (by omega)
  have x0 : w8.cell? ⟨b, off, none⟩ = some (.int .i64 7) := x0
  have x1 : w8.cell? ⟨b, off + 1, none⟩ = some (.int .u64 1) := by rw [show off + 0 * 2 + 1 = off + 1 by omega] at x1; exact x1
  have H8 := H7.turn t8 hS8 ho8 keys_nil (fun x hx => by cases hx) (by simp)
  have HH := Lib.hid H8
  clear H7 hR rd hA t8 hS8 ho8 hr hr2 hc H8
  have c8 : Calls Try.prog 12 #[.pointer (some ⟨G, 0, none⟩)] w8 (Dn (.int .i64 0) w8) := tb_len HH.out.tb (by simp)
  go_wp2_with fail
  ((with_reducible refine c8.mono ?_); rintro e w9 hd)
  have d9 := HH.out.below.trans (hd.below.mono HH.out.below.size)
  obtain ⟨rfl, _⟩ := hd
  clear c8 HH x0 x1
  go_wp2_with fail
  go_ret
  exact ⟨rfl, d9⟩
end Go.Proofs.Ytkhhaokelhmikaa
