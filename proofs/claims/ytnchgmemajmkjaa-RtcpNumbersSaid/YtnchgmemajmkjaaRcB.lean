/- Contracts: limelightref6.body. -/
import Derived.Test.YtnchgmemajmkjaaRcR
import Derived.Test.YtnchgmemajmkjaaRcW
import Derived.Test.YtnchgmemajmkjaaRcA
import Derived.Laws.BitsLemmas
import Derived.BigQuiet
import Derived.Deep.QuietTactic
import Derived.Deep.CutRange
namespace Go.Proofs.Ytnchgmemajmkjaa
open Go.RowKit
set_option linter.unusedVariables false
set_option linter.unusedSimpArgs false
set_option maxRecDepth 20000

/-- What body answers: type, count, what follows. -/
def BodyOut (w : World) (r : Rep) (e : Ending) (w' : World) : Prop :=
  ∃ A n c, e = .returned (.tuple #[.int .i64 r.tc.1, .int .i64 r.tc.2, .slice A n c]) ∧ R8 w' w'.heap.size A n c r.tail ∧ Below w.heap.size w w'
theorem or32 (i x y : Nat) (hx : x % 2 ^ i = 0) (hy : y < 2 ^ i) (h1 : x < 4294967296) (h2 : y < 4294967296) : bits .or .u32 (x : Int) (y : Int) = ((x + y : Nat) : Int) := by
  have h := bits_join .u32 32 (by decide) (fun n h0 h1 => by rw [show (2 : Int) ^ 32 = 4294967296 by decide] at h1; rw [IntKind.wrap_u32]; omega) i (x : Int) (y : Int) (by omega) (by exact_mod_cast congrArg (Nat.cast (R := Int)) hx) (by rw [show (2 : Int) ^ 32 = 4294967296 by decide]; omega) (by omega) (by exact_mod_cast hy) (by rw [show (2 : Int) ^ 32 = 4294967296 by decide]; omega)
  rw [h]
  simp
/-- A tuple's second word. -/
def Tup.word (t : Tup) : Nat := pkE t.rate 17 * 67108864 + pkM t.rate 17 * 512 + t.over.toNat
theorem Tup.bytes_w (t : Tup) : t.bytes = wB [t.owner, t.word] := by simp [Tup.bytes, wB, Tup.word]
theorem Tup.ok_in {t : Tup} (h : t.ok = true) : 0 ≤ t.over ∧ t.over ≤ 511 := by
  unfold Tup.ok at h
  simp at h
  omega
theorem Tup.word_or {t : Tup} (hr : t.rate < 18446744073709551616) (h : t.ok = true) : bits .or .u32 (bits .or .u32 ((pkE t.rate 17 : Int) * 67108864) ((pkM t.rate 17 : Int) * 512)) t.over = (t.word : Int) ∧ t.word < 4294967296 ∧ pkE t.rate 17 ≤ 63 ∧ pkM t.rate 17 < 131072 := by
  have h1 := pkE_le (n := t.rate) (b := 17) (by omega) (by omega)
  have h2 := pkM_lt t.rate 17
  have h3 := Tup.ok_in h
  have e : t.over = ((t.over.toNat : Nat) : Int) := by omega
  have h4 : t.over.toNat ≤ 511 := by omega
  unfold Tup.word
  generalize pkE t.rate 17 = E at *
  generalize pkM t.rate 17 = M at *
  rw [show ((E : Int) * 67108864) = ((E * 67108864 : Nat) : Int) by simp, show ((M : Int) * 512) = ((M * 512 : Nat) : Int) by simp, or32 26 _ _ (by omega) (by omega) (by omega) (by omega), e, or32 9 _ _ (by omega) (by omega) (by omega) (by omega)]
  refine ⟨by omega, by omega, h1, by omega⟩
theorem tups_flat {l : List Tup} {q : Nat} (h : q < l.length) : (l.take q).flatMap Tup.bytes ++ wB [l[q].owner, l[q].word] = (l.take (q + 1)).flatMap Tup.bytes := by
  rw [List.take_add_one, List.flatMap_append, List.getElem?_eq_getElem h, ← Tup.bytes_w]
  simp
set_option maxHeartbeats 4000000 in
theorem body_1 (x : Rv) (w : World) (hx : IsR w w.heap.size x) (hk : x.r.kind = 1) (hok : tupsOk x.r.tups = true) : Calls Try.prog 53 #[x.val] w (BodyOut w x.r) := by
  have htc : x.r.tc = (205, 3) := by unfold Rep.tc; rw [hk]; rfl
  have htl : x.r.tail = be x.r.src 4 ++ (be 0 4 ++ x.r.tups.flatMap Tup.bytes) := by unfold Rep.tail; rw [hk]; rfl
  have HTC := Lib.hid htc
  have HTL := Lib.hid htl
  clear htc htl
  obtain ⟨⟨kind, src, about, tups, abouts, nums, rate, ty, count, body⟩, At, ct, Aa, ca, An, cn, Ab, cb⟩ := x
  obtain ⟨t1, t2, t3, t4, kinds⟩ := hx
  obtain ⟨h1, h2, h3, h4, h5, h6, h7, h8, h9, h10⟩ := kinds
  simp only at hk h1 h2 h3 h4 h5 h6 h7 h8 h9 h10 t1 t2 t3 t4
  subst hk
  have hb : Below w.heap.size w (w.alloc (.cells #[.int .i64 1, .int .u32 (src : Int), .int .u32 (about : Int), .slice At tups.length ct, .slice Aa abouts.length ca, .slice An nums.length cn, .int .u64 (rate : Int), .int .i64 ty, .int .i64 count, .slice Ab body.length cb] 33)) := (Below.refl _ w).alloc (Nat.le_refl _) _
  have hZ : Blk (w.alloc (.cells #[.int .i64 1, .int .u32 (src : Int), .int .u32 (about : Int), .slice At tups.length ct, .slice Aa abouts.length ca, .slice An nums.length cn, .int .u64 (rate : Int), .int .i64 ty, .int .i64 count, .slice Ab body.length cb] 33)) w.heap.size 33 #[.int .i64 1, .int .u32 (src : Int), .int .u32 (about : Int), .slice At tups.length ct, .slice Aa abouts.length ca, .slice An nums.length cn, .int .u64 (rate : Int), .int .i64 ty, .int .i64 count, .slice Ab body.length cb] := Blk.new _ _ _
  have hsz : (w.alloc (.cells #[.int .i64 1, .int .u32 (src : Int), .int .u32 (about : Int), .slice At tups.length ct, .slice Aa abouts.length ca, .slice An nums.length cn, .int .u64 (rate : Int), .int .i64 ty, .int .i64 count, .slice Ab body.length cb] 33)).heap.size = w.heap.size + 1 := by simp
  simp only [Rv.val, Rv.cells]
  have hok : tupsOk tups = true := hok
  have hall : ∀ t ∈ tups, t.ok = true := by
    unfold tupsOk at hok
    rw [Bool.and_eq_true, List.all_eq_true] at hok
    exact hok.1
  have hle : tups.length ≤ 6 := by
    unfold tupsOk at hok
    rw [Bool.and_eq_true] at hok
    simpa using hok.2
  have t1 := t1.on hb
  clear t2 t3 t4 h3 h4 h5 h6 h7 h8 h9 h10 hok
  go_enter Try.func53, Try.ntmps53
  go_upto_region 4 with (fail)
  generalize (w.alloc (.cells #[.int .i64 1, .int .u32 (src : Int), .int .u32 (about : Int), .slice At tups.length ct, .slice Aa abouts.length ca, .slice An nums.length cn, .int .u64 (rate : Int), .int .i64 ty, .int .i64 count, .slice Ab body.length cb] 33)) = V at hb hZ hsz t1 ⊢
  obtain ⟨y0, y1, y2, y3, y4, y5, y6, y7, y8, y9⟩ := blk10 hZ
  have HS := Lib.hid hsz
  have hlt : w.heap.size < V.heap.size := by omega
  clear hsz
  clear y0 y2 y4 y5 y6 y7 y8 y9
  go_wp2_with fail
  ((with_reducible refine (words2 src 0 (src : Int) (0 : Int) rfl rfl h2 (by omega) V _ rfl).mono ?_); rintro e w1 ⟨v1, rfl, o1, b1⟩)
  have o1 := own8_base o1 (b' := V.heap.size) (by simp)
  have b2 : Below V.heap.size V w1 := ((Below.refl _ V).alloc (Nat.le_refl _) _).trans (b1.mono (by simp))
  have z3 := (b2.cell (p := ⟨w.heap.size, 3, none⟩) hlt).trans y3
  have z0 : V.cell? ⟨w.heap.size, 0, none⟩ = some (.int .i64 1) := (blk10 hZ).1
  clear b1 y1 y3
  go_wp2_with fail
  clear z3
  go_loopw [5, 7, 8, 9, 27, 31] (fun v _ _ _ iv _ wr => ∃ q : Nat, q ≤ tups.length ∧ iv = .int .i64 (q : Int) ∧ Own8 wr V.heap.size v (wB [src, 0] ++ (tups.take q).flatMap Tup.bytes) ∧ Below V.heap.size V wr) (fun _ _ _ _ iv _ _ => tups.length - (intOf iv).toNat)
  case atStart => exact ⟨0, by omega, rfl, by simpa using o1, b2⟩
  case round =>
    obtain ⟨q, hq, rfl, ho, hbr⟩ := hrel
    clear o1 b2
    by_cases hql : q < tups.length
    · have g3 : decide ((q : Int) < (tups.length : Int)) = true := by simp; omega
      obtain ⟨b, off, rfl, hbl, k0, k1, k2⟩ := t1.at hql
      have c0 := (hbr.cell (p := ⟨b, off + q * 3, none⟩) hbl).trans k0
      have c1 := (hbr.cell (p := ⟨b, off + q * 3 + 1, none⟩) hbl).trans k1
      have c2 := (hbr.cell (p := ⟨b, off + q * 3 + 2, none⟩) hbl).trans k2
      have htk := Lib.hid (tups_flat hql)
      have hin := t1.2.1 _ (List.getElem_mem hql)
      have hok := hall _ (List.getElem_mem hql)
      have hlen : ((tups.take q).flatMap Tup.bytes).length = q * 8 := by
        rw [flat_length (k := 8) Tup.bytes_len, List.length_take]
        omega
      have hlen : (wB [src, 0] ++ (tups.take q).flatMap Tup.bytes).length ≤ 1000 := by
        rw [List.length_append, hlen, wB_len]
        simp
        omega
      have htk : (wB [src, 0] ++ (tups.take q).flatMap Tup.bytes) ++ wB [tups[q].owner, tups[q].word] = wB [src, 0] ++ (tups.take (q + 1)).flatMap Tup.bytes := by rw [List.append_assoc, htk.out]
      generalize wB [src, 0] ++ (tups.take q).flatMap Tup.bytes = L at ho hlen htk
      have htk := Lib.hid htk
      clear k0 k1 k2 t1 hall z0
      generalize tups[q] = t at c0 c1 c2 htk hin hok
      obtain ⟨or, wlt, e63, m17⟩ := Tup.word_or hin.rate hok
      have o511 := Tup.ok_in hok
      have hpk : ∀ W, Calls Try.prog 49 #[.int .u64 (t.rate : Int), .int .i64 17] W (AnsS (.tuple #[.int .i64 (pkE t.rate 17 : Int), .int .u32 (pkM t.rate 17 : Int)]) W) := fun W => ref_pack_s t.rate 17 W hin.rate
      have OR := Lib.hid or
      have how := hin.owner
      clear or hin hok
      generalize t.word = wd at OR htk wlt
      generalize pkE t.rate 17 = E at *
      generalize pkM t.rate 17 = M at *
      obtain ⟨Ar, cr, rfl, hr⟩ := ho.r8
      have hbs := hbr.size
      go_wp2_with fail
      ((with_reducible refine (hpk _).mono ?_); rintro e w3 ⟨rfl, rfl⟩)
      go_wp2_with fail
      have hs1 : V.heap.size ≤ wr.heap.size := hbr.size
      ((with_reducible refine (words2 t.owner wd (t.owner : Int) _ rfl OR.out how wlt _ _ (by simp)).mono ?_); rintro e w4 ⟨v4, rfl, o4, b4⟩)
      have b5 : Below wr.heap.size wr w4 := (((Below.refl _ wr).alloc (Nat.le_refl _) _).alloc (by simp) _).trans (b4.mono (by simp; omega))
      have ho5 := own8_kept ho b5
      have b6 := hbr.trans (b5.mono hs1)
      obtain ⟨A4, c4, rfl, r4⟩ := o4.r8
      have hl1 : (wB [t.owner, wd]).length = 8 := by rw [wB_len]; rfl
      rw [hl1] at r4
      have hbb : L.length + 8 ≤ 140737488355328 := by omega
      rw [hl1]
      have HBB := Lib.hid hbb
      clear hpk OR c0 c1 c2 b4 b5 o4 hbb hl1 hr hlen ho
      go_wp2_with (at_builtin; ((with_reducible refine wpList_append8 rfl (.tmp 37) (.tmp 51) rfl rfl V.heap.size _ _ (by with_unfolding_all rfl) ho5 w4.heap.size A4 8 c4 _ (by with_unfolding_all rfl) r4 HBB.out b6.size ?_); intro v7 w7 ha7))
      have b7 := ha7.below b6 b6.size ho5 (Nat.le_refl _)
      have o7 := ha7.1
      rw [htk.out] at o7
      clear ha7 ho5 r4 b6 htk HBB
      go_roundw
      case rel => exact ⟨q + 1, by omega, by go_num, o7, b7⟩
      case measure => simp [intOf]; omega
    · have g3 : ¬ (q : Int) < (tups.length : Int) := by omega
      have z0 := (hbr.cell (p := ⟨w.heap.size, 0, none⟩) hlt).trans z0
      rw [List.take_of_length_le (by omega)] at ho
      generalize hL : wB [src, 0] ++ tups.flatMap Tup.bytes = L at ho
      have HL := Lib.hid hL
      clear hL
      obtain ⟨Ar, cr, rfl, hr⟩ := ho.r8
      clear t1 hall
      go_wp2_with fail
      go_quiet (fail)
      have b9 := hb.trans ((hbr.trans (below_drewN _ wr nq)).mono hb.size)
      have hr9 : R8 (wr.drewN nq) (wr.drewN nq).heap.size Ar L.length cr L := hr
      clear z0 hbr hr ho
      generalize wr.drewN nq = Z at b9 hr9 ⊢
      go_wp2_with fail
      refine bodyPost_ret (v := .tuple #[.int .i64 205, .int .i64 3, .slice Ar L.length cr]) (by simp [results, Try.results53, go_sem]) rfl ?_
      refine ⟨Ar, L.length, cr, by rw [HTC.out], ?_, b9⟩
      rw [HTL.out]
      have e : L = be src 4 ++ (be 0 4 ++ tups.flatMap Tup.bytes) := by rw [← HL.out]; simp [wB]
      rw [← e]
      exact hr9
set_option maxHeartbeats 4000000 in
theorem body_2 (x : Rv) (w : World) (hx : IsR w w.heap.size x) (hk : x.r.kind = 2) (hok : tupsOk x.r.tups = true) : Calls Try.prog 53 #[x.val] w (BodyOut w x.r) := by
  have htc : x.r.tc = (205, 4) := by unfold Rep.tc; rw [hk]; rfl
  have htl : x.r.tail = be x.r.src 4 ++ (be 0 4 ++ x.r.tups.flatMap Tup.bytes) := by unfold Rep.tail; rw [hk]; rfl
  have HTC := Lib.hid htc
  have HTL := Lib.hid htl
  clear htc htl
  obtain ⟨⟨kind, src, about, tups, abouts, nums, rate, ty, count, body⟩, At, ct, Aa, ca, An, cn, Ab, cb⟩ := x
  obtain ⟨t1, t2, t3, t4, kinds⟩ := hx
  obtain ⟨h1, h2, h3, h4, h5, h6, h7, h8, h9, h10⟩ := kinds
  simp only at hk h1 h2 h3 h4 h5 h6 h7 h8 h9 h10 t1 t2 t3 t4
  subst hk
  have hb : Below w.heap.size w (w.alloc (.cells #[.int .i64 2, .int .u32 (src : Int), .int .u32 (about : Int), .slice At tups.length ct, .slice Aa abouts.length ca, .slice An nums.length cn, .int .u64 (rate : Int), .int .i64 ty, .int .i64 count, .slice Ab body.length cb] 33)) := (Below.refl _ w).alloc (Nat.le_refl _) _
  have hZ : Blk (w.alloc (.cells #[.int .i64 2, .int .u32 (src : Int), .int .u32 (about : Int), .slice At tups.length ct, .slice Aa abouts.length ca, .slice An nums.length cn, .int .u64 (rate : Int), .int .i64 ty, .int .i64 count, .slice Ab body.length cb] 33)) w.heap.size 33 #[.int .i64 2, .int .u32 (src : Int), .int .u32 (about : Int), .slice At tups.length ct, .slice Aa abouts.length ca, .slice An nums.length cn, .int .u64 (rate : Int), .int .i64 ty, .int .i64 count, .slice Ab body.length cb] := Blk.new _ _ _
  have hsz : (w.alloc (.cells #[.int .i64 2, .int .u32 (src : Int), .int .u32 (about : Int), .slice At tups.length ct, .slice Aa abouts.length ca, .slice An nums.length cn, .int .u64 (rate : Int), .int .i64 ty, .int .i64 count, .slice Ab body.length cb] 33)).heap.size = w.heap.size + 1 := by simp
  simp only [Rv.val, Rv.cells]
  have hok : tupsOk tups = true := hok
  have hall : ∀ t ∈ tups, t.ok = true := by
    unfold tupsOk at hok
    rw [Bool.and_eq_true, List.all_eq_true] at hok
    exact hok.1
  have hle : tups.length ≤ 6 := by
    unfold tupsOk at hok
    rw [Bool.and_eq_true] at hok
    simpa using hok.2
  have t1 := t1.on hb
  clear t2 t3 t4 h3 h4 h5 h6 h7 h8 h9 h10 hok
  go_enter Try.func53, Try.ntmps53
  go_upto_region 4 with (fail)
  generalize (w.alloc (.cells #[.int .i64 2, .int .u32 (src : Int), .int .u32 (about : Int), .slice At tups.length ct, .slice Aa abouts.length ca, .slice An nums.length cn, .int .u64 (rate : Int), .int .i64 ty, .int .i64 count, .slice Ab body.length cb] 33)) = V at hb hZ hsz t1 ⊢
  obtain ⟨y0, y1, y2, y3, y4, y5, y6, y7, y8, y9⟩ := blk10 hZ
  have HS := Lib.hid hsz
  have hlt : w.heap.size < V.heap.size := by omega
  clear hsz
  clear y0 y2 y4 y5 y6 y7 y8 y9
  go_wp2_with fail
  ((with_reducible refine (words2 src 0 (src : Int) (0 : Int) rfl rfl h2 (by omega) V _ rfl).mono ?_); rintro e w1 ⟨v1, rfl, o1, b1⟩)
  have o1 := own8_base o1 (b' := V.heap.size) (by simp)
  have b2 : Below V.heap.size V w1 := ((Below.refl _ V).alloc (Nat.le_refl _) _).trans (b1.mono (by simp))
  have z3 := (b2.cell (p := ⟨w.heap.size, 3, none⟩) hlt).trans y3
  have z0 : V.cell? ⟨w.heap.size, 0, none⟩ = some (.int .i64 2) := (blk10 hZ).1
  clear b1 y1 y3
  go_wp2_with fail
  clear z3
  go_loopw [5, 7, 8, 9, 27, 31] (fun v _ _ _ iv _ wr => ∃ q : Nat, q ≤ tups.length ∧ iv = .int .i64 (q : Int) ∧ Own8 wr V.heap.size v (wB [src, 0] ++ (tups.take q).flatMap Tup.bytes) ∧ Below V.heap.size V wr) (fun _ _ _ _ iv _ _ => tups.length - (intOf iv).toNat)
  case atStart => exact ⟨0, by omega, rfl, by simpa using o1, b2⟩
  case round =>
    obtain ⟨q, hq, rfl, ho, hbr⟩ := hrel
    clear o1 b2
    by_cases hql : q < tups.length
    · have g3 : decide ((q : Int) < (tups.length : Int)) = true := by simp; omega
      obtain ⟨b, off, rfl, hbl, k0, k1, k2⟩ := t1.at hql
      have c0 := (hbr.cell (p := ⟨b, off + q * 3, none⟩) hbl).trans k0
      have c1 := (hbr.cell (p := ⟨b, off + q * 3 + 1, none⟩) hbl).trans k1
      have c2 := (hbr.cell (p := ⟨b, off + q * 3 + 2, none⟩) hbl).trans k2
      have htk := Lib.hid (tups_flat hql)
      have hin := t1.2.1 _ (List.getElem_mem hql)
      have hok := hall _ (List.getElem_mem hql)
      have hlen : ((tups.take q).flatMap Tup.bytes).length = q * 8 := by
        rw [flat_length (k := 8) Tup.bytes_len, List.length_take]
        omega
      have hlen : (wB [src, 0] ++ (tups.take q).flatMap Tup.bytes).length ≤ 1000 := by
        rw [List.length_append, hlen, wB_len]
        simp
        omega
      have htk : (wB [src, 0] ++ (tups.take q).flatMap Tup.bytes) ++ wB [tups[q].owner, tups[q].word] = wB [src, 0] ++ (tups.take (q + 1)).flatMap Tup.bytes := by rw [List.append_assoc, htk.out]
      generalize wB [src, 0] ++ (tups.take q).flatMap Tup.bytes = L at ho hlen htk
      have htk := Lib.hid htk
      clear k0 k1 k2 t1 hall z0
      generalize tups[q] = t at c0 c1 c2 htk hin hok
      obtain ⟨or, wlt, e63, m17⟩ := Tup.word_or hin.rate hok
      have o511 := Tup.ok_in hok
      have hpk : ∀ W, Calls Try.prog 49 #[.int .u64 (t.rate : Int), .int .i64 17] W (AnsS (.tuple #[.int .i64 (pkE t.rate 17 : Int), .int .u32 (pkM t.rate 17 : Int)]) W) := fun W => ref_pack_s t.rate 17 W hin.rate
      have OR := Lib.hid or
      have how := hin.owner
      clear or hin hok
      generalize t.word = wd at OR htk wlt
      generalize pkE t.rate 17 = E at *
      generalize pkM t.rate 17 = M at *
      obtain ⟨Ar, cr, rfl, hr⟩ := ho.r8
      have hbs := hbr.size
      go_wp2_with fail
      ((with_reducible refine (hpk _).mono ?_); rintro e w3 ⟨rfl, rfl⟩)
      go_wp2_with fail
      have hs1 : V.heap.size ≤ wr.heap.size := hbr.size
      ((with_reducible refine (words2 t.owner wd (t.owner : Int) _ rfl OR.out how wlt _ _ (by simp)).mono ?_); rintro e w4 ⟨v4, rfl, o4, b4⟩)
      have b5 : Below wr.heap.size wr w4 := (((Below.refl _ wr).alloc (Nat.le_refl _) _).alloc (by simp) _).trans (b4.mono (by simp; omega))
      have ho5 := own8_kept ho b5
      have b6 := hbr.trans (b5.mono hs1)
      obtain ⟨A4, c4, rfl, r4⟩ := o4.r8
      have hl1 : (wB [t.owner, wd]).length = 8 := by rw [wB_len]; rfl
      rw [hl1] at r4
      have hbb : L.length + 8 ≤ 140737488355328 := by omega
      rw [hl1]
      have HBB := Lib.hid hbb
      clear hpk OR c0 c1 c2 b4 b5 o4 hbb hl1 hr hlen ho
      go_wp2_with (at_builtin; ((with_reducible refine wpList_append8 rfl (.tmp 37) (.tmp 51) rfl rfl V.heap.size _ _ (by with_unfolding_all rfl) ho5 w4.heap.size A4 8 c4 _ (by with_unfolding_all rfl) r4 HBB.out b6.size ?_); intro v7 w7 ha7))
      have b7 := ha7.below b6 b6.size ho5 (Nat.le_refl _)
      have o7 := ha7.1
      rw [htk.out] at o7
      clear ha7 ho5 r4 b6 htk HBB
      go_roundw
      case rel => exact ⟨q + 1, by omega, by go_num, o7, b7⟩
      case measure => simp [intOf]; omega
    · have g3 : ¬ (q : Int) < (tups.length : Int) := by omega
      have z0 := (hbr.cell (p := ⟨w.heap.size, 0, none⟩) hlt).trans z0
      rw [List.take_of_length_le (by omega)] at ho
      generalize hL : wB [src, 0] ++ tups.flatMap Tup.bytes = L at ho
      have HL := Lib.hid hL
      clear hL
      obtain ⟨Ar, cr, rfl, hr⟩ := ho.r8
      clear t1 hall
      go_wp2_with fail
      go_quiet (fail)
      have b9 := hb.trans ((hbr.trans (below_drewN _ wr nq)).mono hb.size)
      have hr9 : R8 (wr.drewN nq) (wr.drewN nq).heap.size Ar L.length cr L := hr
      clear z0 hbr hr ho
      generalize wr.drewN nq = Z at b9 hr9 ⊢
      go_wp2_with fail
      refine bodyPost_ret (v := .tuple #[.int .i64 205, .int .i64 4, .slice Ar L.length cr]) (by simp [results, Try.results53, go_sem]) rfl ?_
      refine ⟨Ar, L.length, cr, by rw [HTC.out], ?_, b9⟩
      rw [HTL.out]
      have e : L = be src 4 ++ (be 0 4 ++ tups.flatMap Tup.bytes) := by rw [← HL.out]; simp [wB]
      rw [← e]
      exact hr9
set_option maxHeartbeats 4000000 in
theorem body_3 (x : Rv) (w : World) (hx : IsR w w.heap.size x) (hk : x.r.kind = 3) : Calls Try.prog 53 #[x.val] w (BodyOut w x.r) := by
  have htc : x.r.tc = (206, 1) := by unfold Rep.tc; rw [hk]; rfl
  have htl : x.r.tail = be x.r.src 4 ++ be x.r.about 4 := by unfold Rep.tail; rw [hk]; rfl
  have HTC := Lib.hid htc
  have HTL := Lib.hid htl
  clear htc htl
  obtain ⟨⟨kind, src, about, tups, abouts, nums, rate, ty, count, body⟩, At, ct, Aa, ca, An, cn, Ab, cb⟩ := x
  obtain ⟨t1, t2, t3, t4, kinds⟩ := hx
  obtain ⟨h1, h2, h3, h4, h5, h6, h7, h8, h9, h10⟩ := kinds
  simp only at hk h1 h2 h3 h4 h5 h6 h7 h8 h9 h10 t1 t2 t3 t4
  subst hk
  have hb : Below w.heap.size w (w.alloc (.cells #[.int .i64 3, .int .u32 (src : Int), .int .u32 (about : Int), .slice At tups.length ct, .slice Aa abouts.length ca, .slice An nums.length cn, .int .u64 (rate : Int), .int .i64 ty, .int .i64 count, .slice Ab body.length cb] 33)) := (Below.refl _ w).alloc (Nat.le_refl _) _
  have hZ : Blk (w.alloc (.cells #[.int .i64 3, .int .u32 (src : Int), .int .u32 (about : Int), .slice At tups.length ct, .slice Aa abouts.length ca, .slice An nums.length cn, .int .u64 (rate : Int), .int .i64 ty, .int .i64 count, .slice Ab body.length cb] 33)) w.heap.size 33 #[.int .i64 3, .int .u32 (src : Int), .int .u32 (about : Int), .slice At tups.length ct, .slice Aa abouts.length ca, .slice An nums.length cn, .int .u64 (rate : Int), .int .i64 ty, .int .i64 count, .slice Ab body.length cb] := Blk.new _ _ _
  have hsz : (w.alloc (.cells #[.int .i64 3, .int .u32 (src : Int), .int .u32 (about : Int), .slice At tups.length ct, .slice Aa abouts.length ca, .slice An nums.length cn, .int .u64 (rate : Int), .int .i64 ty, .int .i64 count, .slice Ab body.length cb] 33)).heap.size = w.heap.size + 1 := by simp
  simp only [Rv.val, Rv.cells]
  clear t1 t2 t3 t4 h4 h5 h6 h7 h8 h9 h10
  go_enter Try.func53, Try.ntmps53
  go_upto_region 13 with (fail)
  generalize (w.alloc (.cells #[.int .i64 3, .int .u32 (src : Int), .int .u32 (about : Int), .slice At tups.length ct, .slice Aa abouts.length ca, .slice An nums.length cn, .int .u64 (rate : Int), .int .i64 ty, .int .i64 count, .slice Ab body.length cb] 33)) = V at hb hZ hsz ⊢
  obtain ⟨y0, y1, y2, y3, y4, y5, y6, y7, y8, y9⟩ := blk10 hZ
  have HS := Lib.hid hsz
  clear hsz y0 y3 y4 y5 y6 y7 y8 y9
  go_wp2_with fail
  ((with_reducible refine (words2 src about (src : Int) (about : Int) rfl rfl h2 h3 V _ rfl).mono ?_); rintro e w1 ⟨v1, rfl, o1, b1⟩)
  have b2 : Below V.heap.size V w1 := ((Below.refl _ V).alloc (Nat.le_refl _) _).trans (b1.mono (by simp))
  have b3 := hb.trans (b2.mono hb.size)
  obtain ⟨Ar, cr, rfl, hr⟩ := o1.r8
  clear b1 b2 o1 y1 y2
  go_wp2_with fail
  refine bodyPost_ret (v := .tuple #[.int .i64 206, .int .i64 1, .slice Ar (wB [src, about]).length cr]) (by simp [results, Try.results53, go_sem]) rfl ?_
  refine ⟨Ar, _, cr, by rw [HTC.out], ?_, b3⟩
  rw [HTL.out]
  have e : wB [src, about] = be src 4 ++ be about 4 := by simp [wB]
  rw [← e]
  exact hr
set_option maxHeartbeats 4000000 in
theorem body_6 (x : Rv) (w : World) (hx : IsR w w.heap.size x) (hk : x.r.kind = 6) : Calls Try.prog 53 #[x.val] w (BodyOut w x.r) := by
  have htc : x.r.tc = (x.r.ty, x.r.count) := by unfold Rep.tc; rw [hk]; rfl
  have htl : x.r.tail = x.r.body := by unfold Rep.tail; rw [hk]; rfl
  have HTC := Lib.hid htc
  have HTL := Lib.hid htl
  clear htc htl
  obtain ⟨⟨kind, src, about, tups, abouts, nums, rate, ty, count, body⟩, At, ct, Aa, ca, An, cn, Ab, cb⟩ := x
  obtain ⟨t1, t2, t3, t4, kinds⟩ := hx
  obtain ⟨h1, h2, h3, h4, h5, h6, h7, h8, h9, h10⟩ := kinds
  simp only at hk h1 h2 h3 h4 h5 h6 h7 h8 h9 h10 t1 t2 t3 t4
  subst hk
  have hb : Below w.heap.size w (w.alloc (.cells #[.int .i64 6, .int .u32 (src : Int), .int .u32 (about : Int), .slice At tups.length ct, .slice Aa abouts.length ca, .slice An nums.length cn, .int .u64 (rate : Int), .int .i64 ty, .int .i64 count, .slice Ab body.length cb] 33)) := (Below.refl _ w).alloc (Nat.le_refl _) _
  have hZ : Blk (w.alloc (.cells #[.int .i64 6, .int .u32 (src : Int), .int .u32 (about : Int), .slice At tups.length ct, .slice Aa abouts.length ca, .slice An nums.length cn, .int .u64 (rate : Int), .int .i64 ty, .int .i64 count, .slice Ab body.length cb] 33)) w.heap.size 33 #[.int .i64 6, .int .u32 (src : Int), .int .u32 (about : Int), .slice At tups.length ct, .slice Aa abouts.length ca, .slice An nums.length cn, .int .u64 (rate : Int), .int .i64 ty, .int .i64 count, .slice Ab body.length cb] := Blk.new _ _ _
  have hsz : (w.alloc (.cells #[.int .i64 6, .int .u32 (src : Int), .int .u32 (about : Int), .slice At tups.length ct, .slice Aa abouts.length ca, .slice An nums.length cn, .int .u64 (rate : Int), .int .i64 ty, .int .i64 count, .slice Ab body.length cb] 33)).heap.size = w.heap.size + 1 := by simp
  simp only [Rv.val, Rv.cells]
  clear t1 t2 t3 h2 h3 h4 h5 h6 h7 h8 h9
  have t4 := t4.on hb
  go_enter Try.func53, Try.ntmps53
  go_upto_region 26 with (fail)
  generalize (w.alloc (.cells #[.int .i64 6, .int .u32 (src : Int), .int .u32 (about : Int), .slice At tups.length ct, .slice Aa abouts.length ca, .slice An nums.length cn, .int .u64 (rate : Int), .int .i64 ty, .int .i64 count, .slice Ab body.length cb] 33)) = V at hb hZ hsz t4 ⊢
  obtain ⟨y0, y1, y2, y3, y4, y5, y6, y7, y8, y9⟩ := blk10 hZ
  have HS := Lib.hid hsz
  clear hsz y0 y3 y4 y5 y6
  go_quiet (fail)
  have b3 := hb.trans ((below_drewN _ V nq).mono hb.size)
  have t4 : R8 (V.drewN nq) (V.drewN nq).heap.size Ab body.length cb body := t4
  clear y7 y8 y9
  generalize V.drewN nq = Z at b3 t4 ⊢
  go_wp2_with fail
  refine bodyPost_ret (v := .tuple #[.int .i64 ty, .int .i64 count, .slice Ab body.length cb]) (by simp [results, Try.results53, go_sem]) rfl ?_
  refine ⟨Ab, _, cb, by rw [HTC.out], ?_, b3⟩
  rw [HTL.out]
  exact t4
end Go.Proofs.Ytnchgmemajmkjaa
