/- Contracts: limelightref6.short. -/
import Derived.Test.YtnchgmemajmkjaaRcF
namespace Go.Proofs.Ytnchgmemajmkjaa
open Go.RowKit
set_option linter.unusedVariables false
set_option linter.unusedSimpArgs false
set_option maxRecDepth 20000

theorem run_fromB (w : World) (A : Option Addr) (n c k : Nat) (j : Int) (hj : j = (k : Int)) (hk : k ≤ n) (hn : n ≤ c) :
    (Instr.slice 31 (.slice A n c) (some (.int .i64 j)) none none).run Try.prog w = .ok (.slice (cutA A c k) (n - k) (c - k)) w := by
  subst hj
  have hs : (Try.prog.elem 31) = 5 := by simp [Program.elem, Try.underlying31]
  have h3 := run_slice_l (P := Try.prog) w 31 A n c (by rw [hs]; exact Try.underlying31) .i64 (k : Nat) (by omega) (by omega)
  rw [hs] at h3
  obtain ⟨i0, hi0, hz0, hz1, hz2⟩ := info_parts u8_info
  rw [h3]
  simp [sizeOf, typeInfo, hi0, hz1, sliced, Result.andThen, cutA]
/-- A row in which a word is written over, from off on. -/
def setW (l : List UInt8) (off wd : Nat) : List UInt8 := l.take off ++ (be wd 4 ++ l.drop (off + 4))
theorem setW_len {l : List UInt8} {off wd : Nat} (h : off + 4 ≤ l.length) : (setW l off wd).length = l.length := by
  unfold setW
  rw [List.length_append, List.length_append, be_len, List.length_take, List.length_drop]
  omega
theorem splice_take {α : Type} {cur l cs : List α} {n off k : Nat} (h : cur.take n = l) (hk : cs.length = k) (ho : off + k ≤ n) (hn : n ≤ cur.length) : (Go.splice cur off cs).take n = l.take off ++ (cs ++ l.drop (off + k)) := by
  subst h hk
  unfold Go.splice
  rw [List.take_append, List.length_take, Nat.min_eq_left (by omega), List.take_of_length_le (l := cur.take off) (by rw [List.length_take]; omega), List.take_append, List.take_of_length_le (l := cs) (by omega), List.take_take, Nat.min_eq_left (by omega), List.drop_take]
  congr 3
  omega
/-- copy of a word's bytes into a row of bytes that the call owns. -/
theorem wpList_copyW {w : World} {ops : Array Oper} {rest : List Oper} {o : Oper} {a : Act} {Q : Exit → Act → World → Prop} (hgd : o.guard = none) (d s : Operand)
    (ho : o.op = .call { callee := .builtin .copy, args := #[d, s], argTypes := #[31, 31] })
    (base : Nat) (A : Option Addr) (L : List UInt8) (c : Nat) (hown : Own8 w base (.slice A L.length c) L) (off wd : Nat) (hoff : off + 4 ≤ L.length) (hd : a.eval d = .slice (cutA A c off) (L.length - off) (c - off))
    (B : Nat) (sp : Option Addr) (sc : Nat) (hs : a.eval s = .slice sp 4 sc) (hr : R8 w B sp 4 sc (be wd 4)) (w0 : World) (hb : Below base w0 w)
    (h : ∀ w', Own8 w' base (.slice A L.length c) (setW L off wd) → Below base w0 w' → wpList Try.prog ops Q rest (a.put o.dst (.int .i64 4)) w') : wpList Try.prog ops Q (o :: rest) a w := by
  rcases hown.2 with ⟨hv, h0⟩ | ⟨g, cap, cur, hv, hbg, hg, h2, h3, h4, h5⟩
  · omega
  · injection hv with e1 e2 e3
    subst e1 e3
    have hcur : cur.size = c := by simpa using h4
    have hcl : cur.toList.length = c := by simpa using hcur
    refine wpList_copy_splice hgd d s 31 31 ho 5 Try.underlying31 (by kernel_rfl) _ _ _ _ _ _ hd hs g off cur.toList 5 (by simpa using hg) ((be wd 4).map bv) (by
      rw [List.length_map, be_len]
      have : Nat.min 4 (L.length - off) = 4 := by show min _ _ = _; omega
      rw [this]) (fun _ => ?_) (by rw [List.length_map, be_len]; omega) (bv_one _) base w0 hb hbg ?_
    · refine ⟨?_, hr.src (by rw [List.length_map, be_len]; omega)⟩
      unfold cutA
      rw [if_neg (by omega)]
      simp only [Option.map_some, Addr.add]
      split <;> simp_all
    · intro w' hw' hb'
      have e4 : goInt ((be wd 4).map bv).length = .int .i64 4 := by rw [List.length_map, be_len]; rfl
      rw [e4]
      refine h w' ?_ hb'
      have h6 := hw'.out
      refine ⟨by simp, .inr ⟨g, c, (Go.splice cur.toList off ((be wd 4).map bv)).toArray, by rw [setW_len hoff], hbg, h6, by rw [setW_len hoff]; exact h2, h3, ?_, ?_⟩⟩
      · simp only [List.size_toArray]
        rw [Go.length_splice _ _ _ (by rw [List.length_map, be_len]; omega), hcl]
        omega
      · have h5' : cur.toList.take L.length = L.map bv := by simpa using h5
        rw [setW_len hoff, Nat.mul_one]
        simp only [List.toList_toArray]
        rw [splice_take h5' (by rw [List.length_map, be_len]) hoff (by omega)]
        unfold setW
        rw [List.map_append, List.map_append, List.map_take, List.map_drop]
/-- The tuples' words, written over one by one. -/
def shortN (y : List UInt8) (l : List Tup) : Nat → List UInt8
  | 0 => y
  | q + 1 => setW (shortN y l q) (16 + 8 * q) ((l[q]?.map Tup.word).getD 0)
theorem shortN_len {y : List UInt8} {l : List Tup} : ∀ {q : Nat}, q ≤ l.length → 12 + 8 * l.length ≤ y.length → (shortN y l q).length = y.length
  | 0, _, _ => rfl
  | q + 1, hq, hy => by
    have ih := shortN_len (q := q) (y := y) (l := l) (by omega) hy
    unfold shortN
    rw [setW_len (by omega), ih]
/-- What short answers: the report's bytes with its rates in their shortest form. -/
def short0 (x : List UInt8) (r : Rep) : List UInt8 := if r.kind = 5 ∧ 20 ≤ x.length then setW x 16 (rembW (x.getD 16 0).toNat r.rate) else x
def shortB (x : List UInt8) (r : Rep) : List UInt8 := shortN (short0 x r) r.tups r.tups.length
theorem short0_len (x : List UInt8) (r : Rep) : (short0 x r).length = x.length := by
  unfold short0
  split
  · rw [setW_len (by omega)]
  · rfl
theorem remb_or2 {n rate : Nat} (hn : n ≤ 255) (hr : rate < 18446744073709551616) : bits .or .u32 (bits .or .u32 ((n : Int) * 16777216) ((pkE rate 18 : Int) * 262144)) (pkM rate 18 : Int) = (rembW n rate : Int) ∧ rembW n rate < 4294967296 ∧ pkE rate 18 ≤ 63 ∧ pkM rate 18 < 262144 := by
  have h1 := pkE_le (n := rate) (b := 18) (by omega) (by omega)
  have h2 := pkM_lt rate 18
  unfold rembW
  generalize pkE rate 18 = E at *
  generalize pkM rate 18 = M at *
  rw [show ((n : Int) * 16777216) = ((n * 16777216 : Nat) : Int) by simp, show ((E : Int) * 262144) = ((E * 262144 : Nat) : Int) by simp, or32 24 _ _ (by omega) (by omega) (by omega) (by omega), or32 18 _ _ (by omega) (by omega) (by omega) (by omega)]
  refine ⟨by omega, by omega, h1, by omega⟩
set_option maxHeartbeats 4000000 in
theorem ref6_short (A : Option Addr) (n c : Nat) (x : List UInt8) (r : Rv) (w : World) (h : R8 w w.heap.size A n c x) (hn : n ≤ 1000000) (hr : IsR w w.heap.size r) (hok : ∀ t ∈ r.r.tups, t.ok = true) (hfit : r.r.tups ≠ [] → 12 + 8 * r.r.tups.length ≤ x.length) :
    Calls Try.prog 58 #[.slice A n c, r.val] w (OwnOut w (shortB x r.r)) := by
  obtain ⟨⟨kind, src, about, tups, abouts, nums, rate, ty, count, body⟩, At, ct, Aa, ca, An, cn, Ab, cb⟩ := r
  obtain ⟨t1, t2, t3, t4, kinds⟩ := hr
  have hrate := kinds.rate
  have htl := kinds.tups
  clear t2 t3 t4 kinds
  simp only at t1 hok hfit hrate htl
  have hsh : shortB x ⟨kind, src, about, tups, abouts, nums, rate, ty, count, body⟩ = shortN (short0 x ⟨kind, src, about, tups, abouts, nums, rate, ty, count, body⟩) tups tups.length := rfl
  rw [hsh]
  clear hsh
  have h0e : short0 x ⟨kind, src, about, tups, abouts, nums, rate, ty, count, body⟩ = if kind = 5 ∧ 20 ≤ x.length then setW x 16 (rembW (x.getD 16 0).toNat rate) else x := rfl
  have h0l := short0_len x ⟨kind, src, about, tups, abouts, nums, rate, ty, count, body⟩
  generalize short0 x ⟨kind, src, about, tups, abouts, nums, rate, ty, count, body⟩ = y0 at h0e h0l ⊢
  have H0E := Lib.hid h0e
  have H0L := Lib.hid h0l
  clear h0e h0l
  simp only [Rv.val, Rv.cells]
  have hb : Below w.heap.size w (w.alloc (.cells #[.int .i64 kind, .int .u32 (src : Int), .int .u32 (about : Int), .slice At tups.length ct, .slice Aa abouts.length ca, .slice An nums.length cn, .int .u64 (rate : Int), .int .i64 ty, .int .i64 count, .slice Ab body.length cb] 33)) := (Below.refl _ w).alloc (Nat.le_refl _) _
  have hZ : Blk (w.alloc (.cells #[.int .i64 kind, .int .u32 (src : Int), .int .u32 (about : Int), .slice At tups.length ct, .slice Aa abouts.length ca, .slice An nums.length cn, .int .u64 (rate : Int), .int .i64 ty, .int .i64 count, .slice Ab body.length cb] 33)) w.heap.size 33 #[.int .i64 kind, .int .u32 (src : Int), .int .u32 (about : Int), .slice At tups.length ct, .slice Aa abouts.length ca, .slice An nums.length cn, .int .u64 (rate : Int), .int .i64 ty, .int .i64 count, .slice Ab body.length cb] := Blk.new _ _ _
  have hxV := h.on hb
  have t1 := t1.on hb
  have hxl : x.length ≤ 1000000 := by rw [h.1]; exact hn
  have HXN := Lib.hid h.1
  have HYL := Lib.hid (show y0.length ≤ 1000000 by rw [H0L.out]; exact hxl)
  clear h
  go_enter Try.func58, Try.ntmps58
  go_upto_region 1 with (fail)
  generalize (w.alloc (.cells #[.int .i64 kind, .int .u32 (src : Int), .int .u32 (about : Int), .slice At tups.length ct, .slice Aa abouts.length ca, .slice An nums.length cn, .int .u64 (rate : Int), .int .i64 ty, .int .i64 count, .slice Ab body.length cb] 33)) = V at hb hZ hxV t1 ⊢
  have hlt : w.heap.size < V.heap.size := hZ.lt
  have oe := Own8.empty V V.heap.size (Nat.le_refl _)
  have hRA := hxV.alloc (Nat.le_refl _) (.cells #[] 5)
  have hbb : ([] : List UInt8).length + n ≤ 140737488355328 := by simp; omega
  have HBB := Lib.hid hbb
  clear hbb
  go_upto_region 2 with (at_builtin; ((with_reducible refine wpList_append8 rfl (.tmp 12) (.tmp 13) rfl rfl V.heap.size _ _ (by with_unfolding_all rfl) oe V.heap.size A n c _ (by with_unfolding_all rfl) hRA HBB.out (by simp) ?_); intro v7 W ha7))
  have bW := below_grown ((Below.refl V.heap.size V).alloc (Nat.le_refl _) (.cells #[] 5)) (by simp) ha7.2.1 (fun k hk => (World.ownsRow.lt oe k hk).1)
  have o7 := ha7.1
  rw [List.nil_append] at o7
  obtain ⟨A7, c7, rfl, r7⟩ := o7.r8
  have hZW := hZ.below bW hlt
  have hxW := hxV.on bW
  have tW := t1.on bW
  have hZ0 := Lib.hid hZ
  have t1 := Lib.hid t1
  clear oe hRA HBB ha7 r7 hZ hxV
  obtain ⟨y00, y1, y2, y3, y4, y5, y6, y7, y8, y9⟩ := blk10 hZW
  by_cases hc : kind = 5 ∧ 20 ≤ x.length
  · obtain ⟨hk5, h20⟩ := hc
    subst hk5
    have hy0 := H0E.out
    rw [if_pos ⟨rfl, h20⟩] at hy0
    have HY0 := Lib.hid hy0
    have g20 : decide ((20 : Int) ≤ (n : Int)) = true := by have := HXN.out; simp only [decide_eq_true_eq]; omega
    have g16 : (16 : Int) < (n : Int) := by have := HXN.out; omega
    have g16n : 16 < n := by have := HXN.out; omega
    have hx16 : (x.getD 16 0).toNat ≤ 255 := by have := (x.getD 16 0).toNat_lt; omega
    obtain ⟨b, off, rfl, hbl, hcell⟩ := hxW.2.2 (by omega)
    have c16 := hcell 16 g16n
    obtain ⟨or, wlt, e63, m18⟩ := remb_or2 hx16 hrate
    have hpk : ∀ W, Calls Try.prog 49 #[.int .u64 (rate : Int), .int .i64 18] W (AnsS (.tuple #[.int .i64 (pkE rate 18 : Int), .int .u32 (pkM rate 18 : Int)]) W) := fun W => ref_pack_s rate 18 W hrate
    have OR := Lib.hid or
    clear hcell or hy0 y1 y2 y3 y4 y5 y7 y8 y9
    generalize rembW (x.getD 16 0).toNat rate = wd at OR wlt HY0
    generalize pkE rate 18 = E at *
    generalize pkM rate 18 = M at *
    generalize (x.getD 16 0).toNat = X16 at *
    go_wp2_with fail
    ((with_reducible refine (hpk _).mono ?_); rintro e w3 ⟨rfl, rfl⟩)
    clear hpk
    go_upto_region 4 with (fail)
    have hoff : 16 + 4 ≤ x.length := by omega
    have hr7 := o7.r8
    have hcap : x.length ≤ c7 := by
      obtain ⟨_, _, e, hh⟩ := hr7
      injection e with _ _ e3
      rw [e3]
      exact hh.2.1
    have hX24 : IntKind.u32.wrap ((X16 : Int) * 16777216) = (X16 : Int) * 16777216 := by rw [IntKind.wrap_u32]; omega
    have hE18 : IntKind.u32.wrap ((E : Int) * 262144) = (E : Int) * 262144 := by rw [IntKind.wrap_u32]; omega
    have hEw : IntKind.u32.wrap (E : Int) = (E : Int) := by rw [IntKind.wrap_u32]; omega
    have hXw : IntKind.u32.wrap (X16 : Int) = (X16 : Int) := by rw [IntKind.wrap_u32]; omega
    refine wp_region_ft (F := keepF W) 15 [.val (.slice A7 x.length c7), .val (.slice (cutA A7 c7 16) (x.length - 16) (c7 - 16)), .val (.slice (some ⟨b, off, none⟩) n c), .val (.pointer (some ⟨b, off + 16, none⟩)), .val (.int .u8 (X16 : Int)), .val (.int .u32 (X16 : Int)), .val (.int .u32 ((X16 : Int) * 16777216)),
        .val (.int .i64 (E : Int)), .val (.int .u32 (E : Int)), .val (.int .u32 ((E : Int) * 262144)), .val (.int .u32 (bits .or .u32 ((X16 : Int) * 16777216) ((E : Int) * 262144))), .val (.int .u32 (M : Int)), .val (.int .u32 (wd : Int)), oneW W wd, b8C W (wB [wd])]
      (by kernel_rfl) (by kernel_rfl) (by kernel_rfl) (by decide) (by kernel_rfl) (Below.refl _ _) (AllOblF.upto ⟨?_, ?_, ?_, ?_, ?_, ?_, ?_, ?_, ?_, ?_, ?_, ?_, ?_, ?_, ?_, trivial⟩) ?_
    · exact OblF.move rfl _ (Or.inl rfl) (by kernel_rfl) rfl
    · refine OblF.pure rfl (.slice (cutA A7 c7 16) (x.length - 16) (c7 - 16)) (by kernel_rfl) rfl fun ev Z hI hf hx => ?_
      have e29 : ev (.tmp 29) = .slice A7 x.length c7 := holds_valF (hx (.tmp 29)) (by kernel_rfl)
      have k0 : ev (.const (.int .i64 16)) = .int .i64 16 := holds_valF (hx (.const (.int .i64 16))) (by kernel_rfl)
      have h1 := run_fromB Z A7 x.length c7 16 16 rfl (by omega) hcap
      simp [execOp, e29, k0, go_sem, Instr.sliceAt, h1]
    · exact OblF.move rfl _ (Or.inl rfl) (by kernel_rfl) rfl
    · refine OblF.pure rfl (.pointer (some ⟨b, off + 16, none⟩)) (by kernel_rfl) rfl fun ev Z hI hf hx => ?_
      have e31 : ev (.tmp 31) = .slice (some ⟨b, off, none⟩) n c := holds_valF (hx (.tmp 31)) (by kernel_rfl)
      have k0 : ev (.const (.int .i64 16)) = .int .i64 16 := holds_valF (hx (.const (.int .i64 16))) (by kernel_rfl)
      simp [execOp, e31, k0, go_sem, g16, g16n]
    · refine OblF.pure rfl (.int .u8 (X16 : Int)) (by kernel_rfl) rfl fun ev Z hI hf hx => ?_
      have e32 : ev (.tmp 32) = .pointer (some ⟨b, off + 16, none⟩) := holds_valF (hx (.tmp 32)) (by kernel_rfl)
      have d4 := (Below.cell (p := ⟨b, off + 16, none⟩) hI hbl).trans c16
      simp [execOp, e32, go_sem, d4]
    · refine OblF.pure rfl (.int .u32 (X16 : Int)) (by kernel_rfl) rfl fun ev Z hI hf hx => ?_
      have e33 : ev (.tmp 33) = .int .u8 (X16 : Int) := holds_valF (hx (.tmp 33)) (by kernel_rfl)
      simp [execOp, e33, go_sem, hXw]
    · refine OblF.pure rfl (.int .u32 ((X16 : Int) * 16777216)) (by kernel_rfl) rfl fun ev Z hI hf hx => ?_
      have e34 : ev (.tmp 34) = .int .u32 (X16 : Int) := holds_valF (hx (.tmp 34)) (by kernel_rfl)
      have k0 : ev (.const (.int .u64 24)) = .int .u64 24 := holds_valF (hx (.const (.int .u64 24))) (by kernel_rfl)
      simp [execOp, e34, k0, go_sem, hX24]
    · exact OblF.move rfl _ (Or.inl rfl) (by kernel_rfl) rfl
    · refine OblF.pure rfl (.int .u32 (E : Int)) (by kernel_rfl) rfl fun ev Z hI hf hx => ?_
      have e36 : ev (.tmp 36) = .int .i64 (E : Int) := holds_valF (hx (.tmp 36)) (by kernel_rfl)
      simp [execOp, e36, go_sem, hEw]
    · refine OblF.pure rfl (.int .u32 ((E : Int) * 262144)) (by kernel_rfl) rfl fun ev Z hI hf hx => ?_
      have e37 : ev (.tmp 37) = .int .u32 (E : Int) := holds_valF (hx (.tmp 37)) (by kernel_rfl)
      have k0 : ev (.const (.int .u64 18)) = .int .u64 18 := holds_valF (hx (.const (.int .u64 18))) (by kernel_rfl)
      simp [execOp, e37, k0, go_sem, hE18]
    · refine OblF.pure rfl (.int .u32 (bits .or .u32 ((X16 : Int) * 16777216) ((E : Int) * 262144))) (by kernel_rfl) rfl fun ev Z hI hf hx => ?_
      have e35 : ev (.tmp 35) = .int .u32 ((X16 : Int) * 16777216) := holds_valF (hx (.tmp 35)) (by kernel_rfl)
      have e38 : ev (.tmp 38) = .int .u32 ((E : Int) * 262144) := holds_valF (hx (.tmp 38)) (by kernel_rfl)
      simp [execOp, e35, e38, go_sem]
    · exact OblF.move rfl _ (Or.inl rfl) (by kernel_rfl) rfl
    · refine OblF.pure rfl (.int .u32 (wd : Int)) (by kernel_rfl) rfl fun ev Z hI hf hx => ?_
      have e39 : ev (.tmp 39) = .int .u32 (bits .or .u32 ((X16 : Int) * 16777216) ((E : Int) * 262144)) := holds_valF (hx (.tmp 39)) (by kernel_rfl)
      have e40 : ev (.tmp 40) = .int .u32 (M : Int) := holds_valF (hx (.tmp 40)) (by kernel_rfl)
      simp [execOp, e39, e40, go_sem, OR.out]
    · refine OblF.step rfl fun ev Z hI hf hx => ?_
      have e41 : ev (.tmp 41) = .int .u32 (wd : Int) := holds_valF (hx (.tmp 41)) (by kernel_rfl)
      refine ⟨.slice (some ⟨Z.heap.size, 0, none⟩) 1 1, Z.alloc (.cells #[.int .u32 (wd : Int)] 27), ?_, ?_, ?_, ?_⟩
      · simp [execOp, e41, go_sem]
      · exact Below.trans hI (((Below.refl Z.heap.size Z).alloc (Nat.le_refl _) _).mono (Below.size hI))
      · exact (Below.refl Z.heap.size Z).alloc (Nat.le_refl _) _
      · exact ⟨Z.heap.size, rfl, lit_r32 [wd] _ 1 _ Z rfl rfl (by simp [wv]) (by intro z hz; simp at hz; omega)⟩
    · refine OblF.call rfl 78 #[.tmp 42] _ rfl Try.f78 Try.func78 (by kernel_rfl) (by kernel_rfl) rfl fun ev Z hI hf hx => ?_
      obtain ⟨gw, e42, hr42⟩ := oneW_of (x := wd) (hx (.tmp 42)) (by kernel_rfl)
      simp only [List.map_toArray, List.map_cons, List.map_nil, e42]
      refine (ref6_words _ 1 1 [wd] Z hr42 (by omega)).mono ?_
      rintro e W' ⟨v, rfl, o, hbW⟩
      obtain ⟨A9, c9, rfl, r9⟩ := o.r8
      exact ⟨_, rfl, Below.trans hI (hbW.mono (Below.size hI)), hbW, A9, c9, rfl, r9⟩
    intro aa Z hI hf hsz hdf hold hv
    have v30 : aa.tmps.getD 30 undef = .slice (cutA A7 c7 16) (x.length - 16) (c7 - 16) := holds_valF (hv 1 (by decide)) (by kernel_rfl)
    obtain ⟨A9, c9, v43, r9⟩ := b8_of (l := wB [wd]) (hv 14 (by decide)) (by kernel_rfl)
    have hw4 : (wB [wd]).length = 4 := by rw [wB_len]; rfl
    have hwb : wB [wd] = be wd 4 := by simp [wB]
    rw [hw4] at v43 r9
    rw [hwb] at r9
    have v43 : aa.tmps.getD 43 undef = .slice A9 4 c9 := v43
    have ha := act_puts [29, 30, 31, 32, 33, 34, 35, 36, 37, 38, 39, 40, 41, 42, 43, 44] (by kernel_rfl) hsz hdf hold
    simp only [putAll, v30, v43] at ha
    generalize aa.tmps.getD 29 undef = x29 at ha
    generalize aa.tmps.getD 31 undef = x31 at ha
    generalize aa.tmps.getD 32 undef = x32 at ha
    generalize aa.tmps.getD 33 undef = x33 at ha
    generalize aa.tmps.getD 34 undef = x34 at ha
    generalize aa.tmps.getD 35 undef = x35 at ha
    generalize aa.tmps.getD 36 undef = x36 at ha
    generalize aa.tmps.getD 37 undef = x37 at ha
    generalize aa.tmps.getD 38 undef = x38 at ha
    generalize aa.tmps.getD 39 undef = x39 at ha
    generalize aa.tmps.getD 40 undef = x40 at ha
    generalize aa.tmps.getD 41 undef = x41 at ha
    generalize aa.tmps.getD 42 undef = x42 at ha
    generalize aa.tmps.getD 44 undef = x44 at ha
    clear v30 v43 hv hold hsz hdf
    subst ha
    simp only [List.toList_toArray, List.drop_succ_cons, List.drop_zero, Act.put, List.setIfInBounds_toArray, List.set_cons_succ, List.set_cons_zero]
    have oZ := own8_kept o7 hI
    have bZ := bW.trans (Below.mono hI bW.size)
    clear hI hf hw4 hwb hXw hEw hE18 hX24 hbl c16 hr7
    go_upto_region 5 with (with_reducible refine wpList_copyW rfl (.tmp 30) (.tmp 43) rfl V.heap.size A7 x c7 oZ 16 wd hoff (by with_unfolding_all rfl) Z.heap.size A9 c9 (by with_unfolding_all rfl) r9 V bZ ?_; intro w9 o9 b9)
    rw [← HY0.out, ← H0L.out] at o9
    rw [← H0L.out]
    rw [← H0L.out] at hfit
    have tW := t1.out.on b9
    have z3 := (hZ0.out.below b9 hlt).cell 3
    clear bZ oZ r9 HY0 OR
    have z3 : w9.cell? ⟨w.heap.size, 3, none⟩ = some (.slice At tups.length ct) := z3
    have hfl : tups.length = 0 ∨ 12 + 8 * tups.length ≤ y0.length := by
      by_cases hne : tups = []
      · left; rw [hne]; rfl
      · right; exact hfit hne
    have HFL := Lib.hid hfl
    have HOK := Lib.hid hok
    have hyl : y0.length ≤ 1000000 := by have := HYL.out; omega
    clear hfl hok hfit
    go_wp2_with fail
    clear z3
    go_loopw [8, 9, 10, 11, 48, 53] (fun _ _ _ _ iv _ wr => ∃ q : Nat, q ≤ tups.length ∧ iv = .int .i64 (q : Int) ∧ Own8 wr V.heap.size (.slice A7 y0.length c7) (shortN y0 tups q) ∧ Below V.heap.size V wr) (fun _ _ _ _ iv _ _ => tups.length - (intOf iv).toNat)
    case atStart => exact ⟨0, by omega, rfl, o9, b9⟩
    case round =>
      obtain ⟨q, hq, rfl, ho, hbr⟩ := hrel
      clear o9 b9
      by_cases hql : q < tups.length
      · have g3 : decide ((q : Int) < (tups.length : Int)) = true := by simp; omega
        obtain ⟨b, off, rfl, hbl, k0, k1, k2⟩ := t1.out.at hql
        have c0 := (hbr.cell (p := ⟨b, off + q * 3, none⟩) hbl).trans k0
        have c1 := (hbr.cell (p := ⟨b, off + q * 3 + 1, none⟩) hbl).trans k1
        have c2 := (hbr.cell (p := ⟨b, off + q * 3 + 2, none⟩) hbl).trans k2
        have hin := t1.out.2.1 _ (List.getElem_mem hql)
        have hok := HOK.out _ (List.getElem_mem hql)
        have hfq : 16 + 8 * q + 4 ≤ y0.length := by have := HFL.out; omega
        have hsl : (shortN y0 tups q).length = y0.length := shortN_len hq (by have := HFL.out; omega)
        have hsn : shortN y0 tups (q + 1) = setW (shortN y0 tups q) (16 + 8 * q) tups[q].word := by
          show setW _ _ _ = _
          rw [List.getElem?_eq_getElem hql]
          rfl
        have HSN := Lib.hid hsn
        have HSL := Lib.hid hsl
        have hq6 : q ≤ 200000 := by omega
        clear k0 k1 k2 hsn hsl
        generalize shortN y0 tups q = L at ho HSN HSL
        generalize tups[q] = t at c0 c1 c2 hin hok HSN
        obtain ⟨or, wlt, e63, m17⟩ := Tup.word_or hin.rate hok
        have o511 := Tup.ok_in hok
        have hpk : ∀ W, Calls Try.prog 49 #[.int .u64 (t.rate : Int), .int .i64 17] W (AnsS (.tuple #[.int .i64 (pkE t.rate 17 : Int), .int .u32 (pkM t.rate 17 : Int)]) W) := fun W => ref_pack_s t.rate 17 W hin.rate
        have OR := Lib.hid or
        clear or hin hok
        generalize t.word = wd at OR HSN wlt
        generalize pkE t.rate 17 = E at *
        generalize pkM t.rate 17 = M at *
        obtain ⟨tw, tr, tv⟩ := t
        simp only at c0 c1 c2 OR o511 hpk
        obtain ⟨tv, rfl⟩ : ∃ k : Nat, tv = (k : Int) := ⟨tv.toNat, by omega⟩
        have hbs := hbr.size
        go_wp2_with fail
        ((with_reducible refine (hpk _).mono ?_); rintro e w3 ⟨rfl, rfl⟩)
        clear hpk
        go_upto_region 9 with (fail)
        have hal := (Below.refl wr.heap.size wr).alloc (Nat.le_refl _) (.cells #[.int .u32 (tw : Int), .int .u64 (tr : Int), .int .i64 (tv : Int)] 57)
        have bA := hbr.trans (hal.mono hbs)
        have oA := own8_kept ho hal
        have y2 := (Blk.new wr 57 #[.int .u32 (tw : Int), .int .u64 (tr : Int), .int .i64 (tv : Int)]).cell 2
        have hgA : wr.heap.size < (wr.alloc (.cells #[.int .u32 (tw : Int), .int .u64 (tr : Int), .int .i64 (tv : Int)] 57)).heap.size := by simp
        generalize wr.alloc (.cells #[.int .u32 (tw : Int), .int .u64 (tr : Int), .int .i64 (tv : Int)] 57) = wA at bA oA y2 hgA ⊢
        generalize wr.heap.size = gA at y2 hgA ⊢
        have y2 : wA.cell? ⟨gA, 2, none⟩ = some (.int .i64 (tv : Int)) := y2
        have hE26 : IntKind.u32.wrap ((E : Int) * 67108864) = (E : Int) * 67108864 := by rw [IntKind.wrap_u32]; omega
        have hM9 : IntKind.u32.wrap ((M : Int) * 512) = (M : Int) * 512 := by rw [IntKind.wrap_u32]; omega
        have hEw : IntKind.u32.wrap (E : Int) = (E : Int) := by rw [IntKind.wrap_u32]; omega
        have hvw : IntKind.u32.wrap (tv : Int) = (tv : Int) := by rw [IntKind.wrap_u32]; omega
        have hq8 : IntKind.i64.wrap (8 * (q : Int)) = 8 * (q : Int) := by rw [IntKind.wrap_i64]; omega
        have hq16 : IntKind.i64.wrap (16 + 8 * (q : Int)) = 16 + 8 * (q : Int) := by rw [IntKind.wrap_i64]; omega
        have hcap : y0.length ≤ c7 := by
          rw [← HSL.out] at oA ⊢
          obtain ⟨_, _, e, hh⟩ := oA.r8
          injection e with _ _ e3
          rw [e3]
          exact hh.2.1
        clear c0 c1 c2 ho hal hbr
        refine wp_region_ft (F := keepF wA) 17 [.val (.slice A7 y0.length c7), .val (.int .i64 (q : Int)), .val (.int .i64 (8 * (q : Int))), .val (.int .i64 (16 + 8 * (q : Int))), .val (.slice (cutA A7 c7 (16 + 8 * q)) (y0.length - (16 + 8 * q)) (c7 - (16 + 8 * q))),
            .val (.int .i64 (E : Int)), .val (.int .u32 (E : Int)), .val (.int .u32 ((E : Int) * 67108864)), .val (.int .u32 (M : Int)), .val (.int .u32 ((M : Int) * 512)), .val (.int .u32 (bits .or .u32 ((E : Int) * 67108864) ((M : Int) * 512))),
            .val (.pointer (some ⟨gA, 2, none⟩)), .val (.int .i64 (tv : Int)), .val (.int .u32 (tv : Int)), .val (.int .u32 (wd : Int)), oneW wA wd, b8C wA (wB [wd])]
          (by kernel_rfl) (by kernel_rfl) (by kernel_rfl) (by decide) (by kernel_rfl) (Below.refl _ _) (AllOblF.upto ⟨?_, ?_, ?_, ?_, ?_, ?_, ?_, ?_, ?_, ?_, ?_, ?_, ?_, ?_, ?_, ?_, ?_, trivial⟩) ?_
        · exact OblF.move rfl _ (Or.inl rfl) (by kernel_rfl) rfl
        · exact OblF.move rfl _ (Or.inl rfl) (by kernel_rfl) rfl
        · refine OblF.pure rfl (.int .i64 (8 * (q : Int))) (by kernel_rfl) rfl fun ev Z hI hf hx => ?_
          have e60 : ev (.tmp 60) = .int .i64 (q : Int) := holds_valF (hx (.tmp 60)) (by kernel_rfl)
          have k0 : ev (.const (.int .i64 8)) = .int .i64 8 := holds_valF (hx (.const (.int .i64 8))) (by kernel_rfl)
          simp [execOp, e60, k0, go_sem, hq8]
        · refine OblF.pure rfl (.int .i64 (16 + 8 * (q : Int))) (by kernel_rfl) rfl fun ev Z hI hf hx => ?_
          have e61 : ev (.tmp 61) = .int .i64 (8 * (q : Int)) := holds_valF (hx (.tmp 61)) (by kernel_rfl)
          have k0 : ev (.const (.int .i64 16)) = .int .i64 16 := holds_valF (hx (.const (.int .i64 16))) (by kernel_rfl)
          simp [execOp, e61, k0, go_sem, hq16]
        · refine OblF.pure rfl (.slice (cutA A7 c7 (16 + 8 * q)) (y0.length - (16 + 8 * q)) (c7 - (16 + 8 * q))) (by kernel_rfl) rfl fun ev Z hI hf hx => ?_
          have e59 : ev (.tmp 59) = .slice A7 y0.length c7 := holds_valF (hx (.tmp 59)) (by kernel_rfl)
          have e62 : ev (.tmp 62) = .int .i64 (16 + 8 * (q : Int)) := holds_valF (hx (.tmp 62)) (by kernel_rfl)
          have h1 := run_fromB Z A7 y0.length c7 (16 + 8 * q) (16 + 8 * (q : Int)) (by simp) (by omega) hcap
          simp [execOp, e59, e62, go_sem, Instr.sliceAt, h1]
        · exact OblF.move rfl _ (Or.inl rfl) (by kernel_rfl) rfl
        · refine OblF.pure rfl (.int .u32 (E : Int)) (by kernel_rfl) rfl fun ev Z hI hf hx => ?_
          have e64 : ev (.tmp 64) = .int .i64 (E : Int) := holds_valF (hx (.tmp 64)) (by kernel_rfl)
          simp [execOp, e64, go_sem, hEw]
        · refine OblF.pure rfl (.int .u32 ((E : Int) * 67108864)) (by kernel_rfl) rfl fun ev Z hI hf hx => ?_
          have e65 : ev (.tmp 65) = .int .u32 (E : Int) := holds_valF (hx (.tmp 65)) (by kernel_rfl)
          have k0 : ev (.const (.int .u64 26)) = .int .u64 26 := holds_valF (hx (.const (.int .u64 26))) (by kernel_rfl)
          simp [execOp, e65, k0, go_sem, hE26]
        · exact OblF.move rfl _ (Or.inl rfl) (by kernel_rfl) rfl
        · refine OblF.pure rfl (.int .u32 ((M : Int) * 512)) (by kernel_rfl) rfl fun ev Z hI hf hx => ?_
          have e67 : ev (.tmp 67) = .int .u32 (M : Int) := holds_valF (hx (.tmp 67)) (by kernel_rfl)
          have k0 : ev (.const (.int .u64 9)) = .int .u64 9 := holds_valF (hx (.const (.int .u64 9))) (by kernel_rfl)
          simp [execOp, e67, k0, go_sem, hM9]
        · refine OblF.pure rfl (.int .u32 (bits .or .u32 ((E : Int) * 67108864) ((M : Int) * 512))) (by kernel_rfl) rfl fun ev Z hI hf hx => ?_
          have e66 : ev (.tmp 66) = .int .u32 ((E : Int) * 67108864) := holds_valF (hx (.tmp 66)) (by kernel_rfl)
          have e68 : ev (.tmp 68) = .int .u32 ((M : Int) * 512) := holds_valF (hx (.tmp 68)) (by kernel_rfl)
          simp [execOp, e66, e68, go_sem]
        · refine OblF.pure rfl (.pointer (some ⟨gA, 2, none⟩)) (by kernel_rfl) rfl fun ev Z hI hf hx => ?_
          have e9 : ev (.tmp 9) = .pointer (some ⟨gA, 0, none⟩) := holds_valF (hx (.tmp 9)) (by kernel_rfl)
          simp [execOp, e9, go_sem]
        · refine OblF.pure rfl (.int .i64 (tv : Int)) (by kernel_rfl) rfl fun ev Z hI hf hx => ?_
          have e70 : ev (.tmp 70) = .pointer (some ⟨gA, 2, none⟩) := holds_valF (hx (.tmp 70)) (by kernel_rfl)
          have d4 := (Below.cell (p := ⟨gA, 2, none⟩) hI hgA).trans y2
          simp [execOp, e70, go_sem, d4]
        · refine OblF.pure rfl (.int .u32 (tv : Int)) (by kernel_rfl) rfl fun ev Z hI hf hx => ?_
          have e71 : ev (.tmp 71) = .int .i64 (tv : Int) := holds_valF (hx (.tmp 71)) (by kernel_rfl)
          simp [execOp, e71, go_sem, hvw]
        · refine OblF.pure rfl (.int .u32 (wd : Int)) (by kernel_rfl) rfl fun ev Z hI hf hx => ?_
          have e69 : ev (.tmp 69) = .int .u32 (bits .or .u32 ((E : Int) * 67108864) ((M : Int) * 512)) := holds_valF (hx (.tmp 69)) (by kernel_rfl)
          have e72 : ev (.tmp 72) = .int .u32 (tv : Int) := holds_valF (hx (.tmp 72)) (by kernel_rfl)
          simp [execOp, e69, e72, go_sem, OR.out]
        · refine OblF.step rfl fun ev Z hI hf hx => ?_
          have e41 : ev (.tmp 73) = .int .u32 (wd : Int) := holds_valF (hx (.tmp 73)) (by kernel_rfl)
          refine ⟨.slice (some ⟨Z.heap.size, 0, none⟩) 1 1, Z.alloc (.cells #[.int .u32 (wd : Int)] 27), ?_, ?_, ?_, ?_⟩
          · simp [execOp, e41, go_sem]
          · exact Below.trans hI (((Below.refl Z.heap.size Z).alloc (Nat.le_refl _) _).mono (Below.size hI))
          · exact (Below.refl Z.heap.size Z).alloc (Nat.le_refl _) _
          · exact ⟨Z.heap.size, rfl, lit_r32 [wd] _ 1 _ Z rfl rfl (by simp [wv]) (by intro z hz; simp at hz; omega)⟩
        · refine OblF.call rfl 78 #[.tmp 74] _ rfl Try.f78 Try.func78 (by kernel_rfl) (by kernel_rfl) rfl fun ev Z hI hf hx => ?_
          obtain ⟨gw, e42, hr42⟩ := oneW_of (x := wd) (hx (.tmp 74)) (by kernel_rfl)
          simp only [List.map_toArray, List.map_cons, List.map_nil, e42]
          refine (ref6_words _ 1 1 [wd] Z hr42 (by omega)).mono ?_
          rintro e W' ⟨v, rfl, o, hbW⟩
          obtain ⟨A9, c9, rfl, r9⟩ := o.r8
          exact ⟨_, rfl, Below.trans hI (hbW.mono (Below.size hI)), hbW, A9, c9, rfl, r9⟩
        intro aa Z hI hf hsz hdf hold hv
        have v63 : aa.tmps.getD 63 undef = .slice (cutA A7 c7 (16 + 8 * q)) (y0.length - (16 + 8 * q)) (c7 - (16 + 8 * q)) := holds_valF (hv 4 (by decide)) (by kernel_rfl)
        obtain ⟨A9, c9, v75, r9⟩ := b8_of (l := wB [wd]) (hv 16 (by decide)) (by kernel_rfl)
        have hw4 : (wB [wd]).length = 4 := by rw [wB_len]; rfl
        have hwb : wB [wd] = be wd 4 := by simp [wB]
        rw [hw4] at v75 r9
        rw [hwb] at r9
        have v75 : aa.tmps.getD 75 undef = .slice A9 4 c9 := v75
        rw [← HSL.out] at v63
        have ha := act_puts [59, 60, 61, 62, 63, 64, 65, 66, 67, 68, 69, 70, 71, 72, 73, 74, 75, 76] (by kernel_rfl) hsz hdf hold
        simp only [putAll, v63, v75] at ha
        generalize aa.tmps.getD 59 undef = x59 at ha
        generalize aa.tmps.getD 60 undef = x60 at ha
        generalize aa.tmps.getD 61 undef = x61 at ha
        generalize aa.tmps.getD 62 undef = x62 at ha
        generalize aa.tmps.getD 64 undef = x64 at ha
        generalize aa.tmps.getD 65 undef = x65 at ha
        generalize aa.tmps.getD 66 undef = x66 at ha
        generalize aa.tmps.getD 67 undef = x67 at ha
        generalize aa.tmps.getD 68 undef = x68 at ha
        generalize aa.tmps.getD 69 undef = x69 at ha
        generalize aa.tmps.getD 70 undef = x70 at ha
        generalize aa.tmps.getD 71 undef = x71 at ha
        generalize aa.tmps.getD 72 undef = x72 at ha
        generalize aa.tmps.getD 73 undef = x73 at ha
        generalize aa.tmps.getD 74 undef = x74 at ha
        generalize aa.tmps.getD 76 undef = x76 at ha
        clear v63 v75 hv hold hsz hdf
        subst ha
        simp only [List.toList_toArray, List.drop_succ_cons, List.drop_zero, Act.put, List.setIfInBounds_toArray, List.set_cons_succ, List.set_cons_zero]
        have oZ := own8_kept oA hI
        rw [← HSL.out] at oZ
        have bZ := bA.trans (Below.mono hI bA.size)
        have hofL : 16 + 8 * q + 4 ≤ L.length := by rw [HSL.out]; exact hfq
        clear hI hf hw4 hwb hEw hE26 hM9 hvw hq8 hq16 y2 hgA OR oA bA
        go_wp2_with (with_reducible refine wpList_copyW rfl (.tmp 63) (.tmp 75) rfl V.heap.size A7 L c7 oZ (16 + 8 * q) wd hofL (by with_unfolding_all rfl) Z.heap.size A9 c9 (by with_unfolding_all rfl) r9 V bZ ?_; intro w8 o8 b8)
        rw [← HSN.out, HSL.out] at o8
        go_roundw
        case rel => exact ⟨q + 1, by omega, by go_num, o8, b8⟩
        case measure => simp [intOf]; omega
      · have g3 : ¬ (q : Int) < (tups.length : Int) := by omega
        obtain rfl : q = tups.length := by omega
        have b8 := hb.trans (hbr.mono hb.size)
        have o8 := own8_base ho (Nat.le_of_lt hlt)
        go_wp2_with fail
        go_ret
        exact ⟨_, rfl, o8, b8⟩
  · have hy0 := H0E.out
    rw [if_neg hc] at hy0
    subst hy0
    have o9 := o7
    have b9 := bW
    have z3 := (hZ0.out.below b9 hlt).cell 3
    clear y1 y2 y3 y4 y5 y6 y7 y8 y9
    by_cases hk5 : kind = 5
    · subst hk5
      have g20 : decide ((20 : Int) ≤ (n : Int)) = false := by
        have h1 := HXN.out
        have h2 : ¬ 20 ≤ y0.length := fun h => hc ⟨rfl, h⟩
        simp only [decide_eq_false_iff_not]
        omega
      clear hc
      go_upto_region 5 with (fail)
      have z3 : W.cell? ⟨w.heap.size, 3, none⟩ = some (.slice At tups.length ct) := z3
      have hfl : tups.length = 0 ∨ 12 + 8 * tups.length ≤ y0.length := by
        by_cases hne : tups = []
        · left; rw [hne]; rfl
        · right; exact hfit hne
      have HFL := Lib.hid hfl
      have HOK := Lib.hid hok
      have hyl : y0.length ≤ 1000000 := by have := HYL.out; omega
      clear hfl hok hfit
      go_wp2_with fail
      clear z3
      go_loopw [8, 9, 10, 11, 48, 53] (fun _ _ _ _ iv _ wr => ∃ q : Nat, q ≤ tups.length ∧ iv = .int .i64 (q : Int) ∧ Own8 wr V.heap.size (.slice A7 y0.length c7) (shortN y0 tups q) ∧ Below V.heap.size V wr) (fun _ _ _ _ iv _ _ => tups.length - (intOf iv).toNat)
      case atStart => exact ⟨0, by omega, rfl, o9, b9⟩
      case round =>
        obtain ⟨q, hq, rfl, ho, hbr⟩ := hrel
        clear o9 b9
        by_cases hql : q < tups.length
        · have g3 : decide ((q : Int) < (tups.length : Int)) = true := by simp; omega
          obtain ⟨b, off, rfl, hbl, k0, k1, k2⟩ := t1.out.at hql
          have c0 := (hbr.cell (p := ⟨b, off + q * 3, none⟩) hbl).trans k0
          have c1 := (hbr.cell (p := ⟨b, off + q * 3 + 1, none⟩) hbl).trans k1
          have c2 := (hbr.cell (p := ⟨b, off + q * 3 + 2, none⟩) hbl).trans k2
          have hin := t1.out.2.1 _ (List.getElem_mem hql)
          have hok := HOK.out _ (List.getElem_mem hql)
          have hfq : 16 + 8 * q + 4 ≤ y0.length := by have := HFL.out; omega
          have hsl : (shortN y0 tups q).length = y0.length := shortN_len hq (by have := HFL.out; omega)
          have hsn : shortN y0 tups (q + 1) = setW (shortN y0 tups q) (16 + 8 * q) tups[q].word := by
            show setW _ _ _ = _
            rw [List.getElem?_eq_getElem hql]
            rfl
          have HSN := Lib.hid hsn
          have HSL := Lib.hid hsl
          have hq6 : q ≤ 200000 := by omega
          clear k0 k1 k2 hsn hsl
          generalize shortN y0 tups q = L at ho HSN HSL
          generalize tups[q] = t at c0 c1 c2 hin hok HSN
          obtain ⟨or, wlt, e63, m17⟩ := Tup.word_or hin.rate hok
          have o511 := Tup.ok_in hok
          have hpk : ∀ W, Calls Try.prog 49 #[.int .u64 (t.rate : Int), .int .i64 17] W (AnsS (.tuple #[.int .i64 (pkE t.rate 17 : Int), .int .u32 (pkM t.rate 17 : Int)]) W) := fun W => ref_pack_s t.rate 17 W hin.rate
          have OR := Lib.hid or
          clear or hin hok
          generalize t.word = wd at OR HSN wlt
          generalize pkE t.rate 17 = E at *
          generalize pkM t.rate 17 = M at *
          obtain ⟨tw, tr, tv⟩ := t
          simp only at c0 c1 c2 OR o511 hpk
          obtain ⟨tv, rfl⟩ : ∃ k : Nat, tv = (k : Int) := ⟨tv.toNat, by omega⟩
          have hbs := hbr.size
          go_wp2_with fail
          ((with_reducible refine (hpk _).mono ?_); rintro e w3 ⟨rfl, rfl⟩)
          clear hpk
          go_upto_region 9 with (fail)
          have hal := (Below.refl wr.heap.size wr).alloc (Nat.le_refl _) (.cells #[.int .u32 (tw : Int), .int .u64 (tr : Int), .int .i64 (tv : Int)] 57)
          have bA := hbr.trans (hal.mono hbs)
          have oA := own8_kept ho hal
          have y2 := (Blk.new wr 57 #[.int .u32 (tw : Int), .int .u64 (tr : Int), .int .i64 (tv : Int)]).cell 2
          have hgA : wr.heap.size < (wr.alloc (.cells #[.int .u32 (tw : Int), .int .u64 (tr : Int), .int .i64 (tv : Int)] 57)).heap.size := by simp
          generalize wr.alloc (.cells #[.int .u32 (tw : Int), .int .u64 (tr : Int), .int .i64 (tv : Int)] 57) = wA at bA oA y2 hgA ⊢
          generalize wr.heap.size = gA at y2 hgA ⊢
          have y2 : wA.cell? ⟨gA, 2, none⟩ = some (.int .i64 (tv : Int)) := y2
          have hE26 : IntKind.u32.wrap ((E : Int) * 67108864) = (E : Int) * 67108864 := by rw [IntKind.wrap_u32]; omega
          have hM9 : IntKind.u32.wrap ((M : Int) * 512) = (M : Int) * 512 := by rw [IntKind.wrap_u32]; omega
          have hEw : IntKind.u32.wrap (E : Int) = (E : Int) := by rw [IntKind.wrap_u32]; omega
          have hvw : IntKind.u32.wrap (tv : Int) = (tv : Int) := by rw [IntKind.wrap_u32]; omega
          have hq8 : IntKind.i64.wrap (8 * (q : Int)) = 8 * (q : Int) := by rw [IntKind.wrap_i64]; omega
          have hq16 : IntKind.i64.wrap (16 + 8 * (q : Int)) = 16 + 8 * (q : Int) := by rw [IntKind.wrap_i64]; omega
          have hcap : y0.length ≤ c7 := by
            rw [← HSL.out] at oA ⊢
            obtain ⟨_, _, e, hh⟩ := oA.r8
            injection e with _ _ e3
            rw [e3]
            exact hh.2.1
          clear c0 c1 c2 ho hal hbr
          refine wp_region_ft (F := keepF wA) 17 [.val (.slice A7 y0.length c7), .val (.int .i64 (q : Int)), .val (.int .i64 (8 * (q : Int))), .val (.int .i64 (16 + 8 * (q : Int))), .val (.slice (cutA A7 c7 (16 + 8 * q)) (y0.length - (16 + 8 * q)) (c7 - (16 + 8 * q))),
              .val (.int .i64 (E : Int)), .val (.int .u32 (E : Int)), .val (.int .u32 ((E : Int) * 67108864)), .val (.int .u32 (M : Int)), .val (.int .u32 ((M : Int) * 512)), .val (.int .u32 (bits .or .u32 ((E : Int) * 67108864) ((M : Int) * 512))),
              .val (.pointer (some ⟨gA, 2, none⟩)), .val (.int .i64 (tv : Int)), .val (.int .u32 (tv : Int)), .val (.int .u32 (wd : Int)), oneW wA wd, b8C wA (wB [wd])]
            (by kernel_rfl) (by kernel_rfl) (by kernel_rfl) (by decide) (by kernel_rfl) (Below.refl _ _) (AllOblF.upto ⟨?_, ?_, ?_, ?_, ?_, ?_, ?_, ?_, ?_, ?_, ?_, ?_, ?_, ?_, ?_, ?_, ?_, trivial⟩) ?_
          · exact OblF.move rfl _ (Or.inl rfl) (by kernel_rfl) rfl
          · exact OblF.move rfl _ (Or.inl rfl) (by kernel_rfl) rfl
          · refine OblF.pure rfl (.int .i64 (8 * (q : Int))) (by kernel_rfl) rfl fun ev Z hI hf hx => ?_
            have e60 : ev (.tmp 60) = .int .i64 (q : Int) := holds_valF (hx (.tmp 60)) (by kernel_rfl)
            have k0 : ev (.const (.int .i64 8)) = .int .i64 8 := holds_valF (hx (.const (.int .i64 8))) (by kernel_rfl)
            simp [execOp, e60, k0, go_sem, hq8]
          · refine OblF.pure rfl (.int .i64 (16 + 8 * (q : Int))) (by kernel_rfl) rfl fun ev Z hI hf hx => ?_
            have e61 : ev (.tmp 61) = .int .i64 (8 * (q : Int)) := holds_valF (hx (.tmp 61)) (by kernel_rfl)
            have k0 : ev (.const (.int .i64 16)) = .int .i64 16 := holds_valF (hx (.const (.int .i64 16))) (by kernel_rfl)
            simp [execOp, e61, k0, go_sem, hq16]
          · refine OblF.pure rfl (.slice (cutA A7 c7 (16 + 8 * q)) (y0.length - (16 + 8 * q)) (c7 - (16 + 8 * q))) (by kernel_rfl) rfl fun ev Z hI hf hx => ?_
            have e59 : ev (.tmp 59) = .slice A7 y0.length c7 := holds_valF (hx (.tmp 59)) (by kernel_rfl)
            have e62 : ev (.tmp 62) = .int .i64 (16 + 8 * (q : Int)) := holds_valF (hx (.tmp 62)) (by kernel_rfl)
            have h1 := run_fromB Z A7 y0.length c7 (16 + 8 * q) (16 + 8 * (q : Int)) (by simp) (by omega) hcap
            simp [execOp, e59, e62, go_sem, Instr.sliceAt, h1]
          · exact OblF.move rfl _ (Or.inl rfl) (by kernel_rfl) rfl
          · refine OblF.pure rfl (.int .u32 (E : Int)) (by kernel_rfl) rfl fun ev Z hI hf hx => ?_
            have e64 : ev (.tmp 64) = .int .i64 (E : Int) := holds_valF (hx (.tmp 64)) (by kernel_rfl)
            simp [execOp, e64, go_sem, hEw]
          · refine OblF.pure rfl (.int .u32 ((E : Int) * 67108864)) (by kernel_rfl) rfl fun ev Z hI hf hx => ?_
            have e65 : ev (.tmp 65) = .int .u32 (E : Int) := holds_valF (hx (.tmp 65)) (by kernel_rfl)
            have k0 : ev (.const (.int .u64 26)) = .int .u64 26 := holds_valF (hx (.const (.int .u64 26))) (by kernel_rfl)
            simp [execOp, e65, k0, go_sem, hE26]
          · exact OblF.move rfl _ (Or.inl rfl) (by kernel_rfl) rfl
          · refine OblF.pure rfl (.int .u32 ((M : Int) * 512)) (by kernel_rfl) rfl fun ev Z hI hf hx => ?_
            have e67 : ev (.tmp 67) = .int .u32 (M : Int) := holds_valF (hx (.tmp 67)) (by kernel_rfl)
            have k0 : ev (.const (.int .u64 9)) = .int .u64 9 := holds_valF (hx (.const (.int .u64 9))) (by kernel_rfl)
            simp [execOp, e67, k0, go_sem, hM9]
          · refine OblF.pure rfl (.int .u32 (bits .or .u32 ((E : Int) * 67108864) ((M : Int) * 512))) (by kernel_rfl) rfl fun ev Z hI hf hx => ?_
            have e66 : ev (.tmp 66) = .int .u32 ((E : Int) * 67108864) := holds_valF (hx (.tmp 66)) (by kernel_rfl)
            have e68 : ev (.tmp 68) = .int .u32 ((M : Int) * 512) := holds_valF (hx (.tmp 68)) (by kernel_rfl)
            simp [execOp, e66, e68, go_sem]
          · refine OblF.pure rfl (.pointer (some ⟨gA, 2, none⟩)) (by kernel_rfl) rfl fun ev Z hI hf hx => ?_
            have e9 : ev (.tmp 9) = .pointer (some ⟨gA, 0, none⟩) := holds_valF (hx (.tmp 9)) (by kernel_rfl)
            simp [execOp, e9, go_sem]
          · refine OblF.pure rfl (.int .i64 (tv : Int)) (by kernel_rfl) rfl fun ev Z hI hf hx => ?_
            have e70 : ev (.tmp 70) = .pointer (some ⟨gA, 2, none⟩) := holds_valF (hx (.tmp 70)) (by kernel_rfl)
            have d4 := (Below.cell (p := ⟨gA, 2, none⟩) hI hgA).trans y2
            simp [execOp, e70, go_sem, d4]
          · refine OblF.pure rfl (.int .u32 (tv : Int)) (by kernel_rfl) rfl fun ev Z hI hf hx => ?_
            have e71 : ev (.tmp 71) = .int .i64 (tv : Int) := holds_valF (hx (.tmp 71)) (by kernel_rfl)
            simp [execOp, e71, go_sem, hvw]
          · refine OblF.pure rfl (.int .u32 (wd : Int)) (by kernel_rfl) rfl fun ev Z hI hf hx => ?_
            have e69 : ev (.tmp 69) = .int .u32 (bits .or .u32 ((E : Int) * 67108864) ((M : Int) * 512)) := holds_valF (hx (.tmp 69)) (by kernel_rfl)
            have e72 : ev (.tmp 72) = .int .u32 (tv : Int) := holds_valF (hx (.tmp 72)) (by kernel_rfl)
            simp [execOp, e69, e72, go_sem, OR.out]
          · refine OblF.step rfl fun ev Z hI hf hx => ?_
            have e41 : ev (.tmp 73) = .int .u32 (wd : Int) := holds_valF (hx (.tmp 73)) (by kernel_rfl)
            refine ⟨.slice (some ⟨Z.heap.size, 0, none⟩) 1 1, Z.alloc (.cells #[.int .u32 (wd : Int)] 27), ?_, ?_, ?_, ?_⟩
            · simp [execOp, e41, go_sem]
            · exact Below.trans hI (((Below.refl Z.heap.size Z).alloc (Nat.le_refl _) _).mono (Below.size hI))
            · exact (Below.refl Z.heap.size Z).alloc (Nat.le_refl _) _
            · exact ⟨Z.heap.size, rfl, lit_r32 [wd] _ 1 _ Z rfl rfl (by simp [wv]) (by intro z hz; simp at hz; omega)⟩
          · refine OblF.call rfl 78 #[.tmp 74] _ rfl Try.f78 Try.func78 (by kernel_rfl) (by kernel_rfl) rfl fun ev Z hI hf hx => ?_
            obtain ⟨gw, e42, hr42⟩ := oneW_of (x := wd) (hx (.tmp 74)) (by kernel_rfl)
            simp only [List.map_toArray, List.map_cons, List.map_nil, e42]
            refine (ref6_words _ 1 1 [wd] Z hr42 (by omega)).mono ?_
            rintro e W' ⟨v, rfl, o, hbW⟩
            obtain ⟨A9, c9, rfl, r9⟩ := o.r8
            exact ⟨_, rfl, Below.trans hI (hbW.mono (Below.size hI)), hbW, A9, c9, rfl, r9⟩
          intro aa Z hI hf hsz hdf hold hv
          have v63 : aa.tmps.getD 63 undef = .slice (cutA A7 c7 (16 + 8 * q)) (y0.length - (16 + 8 * q)) (c7 - (16 + 8 * q)) := holds_valF (hv 4 (by decide)) (by kernel_rfl)
          obtain ⟨A9, c9, v75, r9⟩ := b8_of (l := wB [wd]) (hv 16 (by decide)) (by kernel_rfl)
          have hw4 : (wB [wd]).length = 4 := by rw [wB_len]; rfl
          have hwb : wB [wd] = be wd 4 := by simp [wB]
          rw [hw4] at v75 r9
          rw [hwb] at r9
          have v75 : aa.tmps.getD 75 undef = .slice A9 4 c9 := v75
          rw [← HSL.out] at v63
          have ha := act_puts [59, 60, 61, 62, 63, 64, 65, 66, 67, 68, 69, 70, 71, 72, 73, 74, 75, 76] (by kernel_rfl) hsz hdf hold
          simp only [putAll, v63, v75] at ha
          generalize aa.tmps.getD 59 undef = x59 at ha
          generalize aa.tmps.getD 60 undef = x60 at ha
          generalize aa.tmps.getD 61 undef = x61 at ha
          generalize aa.tmps.getD 62 undef = x62 at ha
          generalize aa.tmps.getD 64 undef = x64 at ha
          generalize aa.tmps.getD 65 undef = x65 at ha
          generalize aa.tmps.getD 66 undef = x66 at ha
          generalize aa.tmps.getD 67 undef = x67 at ha
          generalize aa.tmps.getD 68 undef = x68 at ha
          generalize aa.tmps.getD 69 undef = x69 at ha
          generalize aa.tmps.getD 70 undef = x70 at ha
          generalize aa.tmps.getD 71 undef = x71 at ha
          generalize aa.tmps.getD 72 undef = x72 at ha
          generalize aa.tmps.getD 73 undef = x73 at ha
          generalize aa.tmps.getD 74 undef = x74 at ha
          generalize aa.tmps.getD 76 undef = x76 at ha
          clear v63 v75 hv hold hsz hdf
          subst ha
          simp only [List.toList_toArray, List.drop_succ_cons, List.drop_zero, Act.put, List.setIfInBounds_toArray, List.set_cons_succ, List.set_cons_zero]
          have oZ := own8_kept oA hI
          rw [← HSL.out] at oZ
          have bZ := bA.trans (Below.mono hI bA.size)
          have hofL : 16 + 8 * q + 4 ≤ L.length := by rw [HSL.out]; exact hfq
          clear hI hf hw4 hwb hEw hE26 hM9 hvw hq8 hq16 y2 hgA OR oA bA
          go_wp2_with (with_reducible refine wpList_copyW rfl (.tmp 63) (.tmp 75) rfl V.heap.size A7 L c7 oZ (16 + 8 * q) wd hofL (by with_unfolding_all rfl) Z.heap.size A9 c9 (by with_unfolding_all rfl) r9 V bZ ?_; intro w8 o8 b8)
          rw [← HSN.out, HSL.out] at o8
          go_roundw
          case rel => exact ⟨q + 1, by omega, by go_num, o8, b8⟩
          case measure => simp [intOf]; omega
        · have g3 : ¬ (q : Int) < (tups.length : Int) := by omega
          obtain rfl : q = tups.length := by omega
          have b8 := hb.trans (hbr.mono hb.size)
          have o8 := own8_base ho (Nat.le_of_lt hlt)
          go_wp2_with fail
          go_ret
          exact ⟨_, rfl, o8, b8⟩
    · have hk : (kind == 5) = false := by simpa using hk5
      clear hc hk5
      go_upto_region 5 with (fail)
      have z3 : W.cell? ⟨w.heap.size, 3, none⟩ = some (.slice At tups.length ct) := z3
      have hfl : tups.length = 0 ∨ 12 + 8 * tups.length ≤ y0.length := by
        by_cases hne : tups = []
        · left; rw [hne]; rfl
        · right; exact hfit hne
      have HFL := Lib.hid hfl
      have HOK := Lib.hid hok
      have hyl : y0.length ≤ 1000000 := by have := HYL.out; omega
      clear hfl hok hfit
      go_wp2_with fail
      clear z3
      go_loopw [8, 9, 10, 11, 48, 53] (fun _ _ _ _ iv _ wr => ∃ q : Nat, q ≤ tups.length ∧ iv = .int .i64 (q : Int) ∧ Own8 wr V.heap.size (.slice A7 y0.length c7) (shortN y0 tups q) ∧ Below V.heap.size V wr) (fun _ _ _ _ iv _ _ => tups.length - (intOf iv).toNat)
      case atStart => exact ⟨0, by omega, rfl, o9, b9⟩
      case round =>
        obtain ⟨q, hq, rfl, ho, hbr⟩ := hrel
        clear o9 b9
        by_cases hql : q < tups.length
        · have g3 : decide ((q : Int) < (tups.length : Int)) = true := by simp; omega
          obtain ⟨b, off, rfl, hbl, k0, k1, k2⟩ := t1.out.at hql
          have c0 := (hbr.cell (p := ⟨b, off + q * 3, none⟩) hbl).trans k0
          have c1 := (hbr.cell (p := ⟨b, off + q * 3 + 1, none⟩) hbl).trans k1
          have c2 := (hbr.cell (p := ⟨b, off + q * 3 + 2, none⟩) hbl).trans k2
          have hin := t1.out.2.1 _ (List.getElem_mem hql)
          have hok := HOK.out _ (List.getElem_mem hql)
          have hfq : 16 + 8 * q + 4 ≤ y0.length := by have := HFL.out; omega
          have hsl : (shortN y0 tups q).length = y0.length := shortN_len hq (by have := HFL.out; omega)
          have hsn : shortN y0 tups (q + 1) = setW (shortN y0 tups q) (16 + 8 * q) tups[q].word := by
            show setW _ _ _ = _
            rw [List.getElem?_eq_getElem hql]
            rfl
          have HSN := Lib.hid hsn
          have HSL := Lib.hid hsl
          have hq6 : q ≤ 200000 := by omega
          clear k0 k1 k2 hsn hsl
          generalize shortN y0 tups q = L at ho HSN HSL
          generalize tups[q] = t at c0 c1 c2 hin hok HSN
          obtain ⟨or, wlt, e63, m17⟩ := Tup.word_or hin.rate hok
          have o511 := Tup.ok_in hok
          have hpk : ∀ W, Calls Try.prog 49 #[.int .u64 (t.rate : Int), .int .i64 17] W (AnsS (.tuple #[.int .i64 (pkE t.rate 17 : Int), .int .u32 (pkM t.rate 17 : Int)]) W) := fun W => ref_pack_s t.rate 17 W hin.rate
          have OR := Lib.hid or
          clear or hin hok
          generalize t.word = wd at OR HSN wlt
          generalize pkE t.rate 17 = E at *
          generalize pkM t.rate 17 = M at *
          obtain ⟨tw, tr, tv⟩ := t
          simp only at c0 c1 c2 OR o511 hpk
          obtain ⟨tv, rfl⟩ : ∃ k : Nat, tv = (k : Int) := ⟨tv.toNat, by omega⟩
          have hbs := hbr.size
          go_wp2_with fail
          ((with_reducible refine (hpk _).mono ?_); rintro e w3 ⟨rfl, rfl⟩)
          clear hpk
          go_upto_region 9 with (fail)
          have hal := (Below.refl wr.heap.size wr).alloc (Nat.le_refl _) (.cells #[.int .u32 (tw : Int), .int .u64 (tr : Int), .int .i64 (tv : Int)] 57)
          have bA := hbr.trans (hal.mono hbs)
          have oA := own8_kept ho hal
          have y2 := (Blk.new wr 57 #[.int .u32 (tw : Int), .int .u64 (tr : Int), .int .i64 (tv : Int)]).cell 2
          have hgA : wr.heap.size < (wr.alloc (.cells #[.int .u32 (tw : Int), .int .u64 (tr : Int), .int .i64 (tv : Int)] 57)).heap.size := by simp
          generalize wr.alloc (.cells #[.int .u32 (tw : Int), .int .u64 (tr : Int), .int .i64 (tv : Int)] 57) = wA at bA oA y2 hgA ⊢
          generalize wr.heap.size = gA at y2 hgA ⊢
          have y2 : wA.cell? ⟨gA, 2, none⟩ = some (.int .i64 (tv : Int)) := y2
          have hE26 : IntKind.u32.wrap ((E : Int) * 67108864) = (E : Int) * 67108864 := by rw [IntKind.wrap_u32]; omega
          have hM9 : IntKind.u32.wrap ((M : Int) * 512) = (M : Int) * 512 := by rw [IntKind.wrap_u32]; omega
          have hEw : IntKind.u32.wrap (E : Int) = (E : Int) := by rw [IntKind.wrap_u32]; omega
          have hvw : IntKind.u32.wrap (tv : Int) = (tv : Int) := by rw [IntKind.wrap_u32]; omega
          have hq8 : IntKind.i64.wrap (8 * (q : Int)) = 8 * (q : Int) := by rw [IntKind.wrap_i64]; omega
          have hq16 : IntKind.i64.wrap (16 + 8 * (q : Int)) = 16 + 8 * (q : Int) := by rw [IntKind.wrap_i64]; omega
          have hcap : y0.length ≤ c7 := by
            rw [← HSL.out] at oA ⊢
            obtain ⟨_, _, e, hh⟩ := oA.r8
            injection e with _ _ e3
            rw [e3]
            exact hh.2.1
          clear c0 c1 c2 ho hal hbr
          refine wp_region_ft (F := keepF wA) 17 [.val (.slice A7 y0.length c7), .val (.int .i64 (q : Int)), .val (.int .i64 (8 * (q : Int))), .val (.int .i64 (16 + 8 * (q : Int))), .val (.slice (cutA A7 c7 (16 + 8 * q)) (y0.length - (16 + 8 * q)) (c7 - (16 + 8 * q))),
              .val (.int .i64 (E : Int)), .val (.int .u32 (E : Int)), .val (.int .u32 ((E : Int) * 67108864)), .val (.int .u32 (M : Int)), .val (.int .u32 ((M : Int) * 512)), .val (.int .u32 (bits .or .u32 ((E : Int) * 67108864) ((M : Int) * 512))),
              .val (.pointer (some ⟨gA, 2, none⟩)), .val (.int .i64 (tv : Int)), .val (.int .u32 (tv : Int)), .val (.int .u32 (wd : Int)), oneW wA wd, b8C wA (wB [wd])]
            (by kernel_rfl) (by kernel_rfl) (by kernel_rfl) (by decide) (by kernel_rfl) (Below.refl _ _) (AllOblF.upto ⟨?_, ?_, ?_, ?_, ?_, ?_, ?_, ?_, ?_, ?_, ?_, ?_, ?_, ?_, ?_, ?_, ?_, trivial⟩) ?_
          · exact OblF.move rfl _ (Or.inl rfl) (by kernel_rfl) rfl
          · exact OblF.move rfl _ (Or.inl rfl) (by kernel_rfl) rfl
          · refine OblF.pure rfl (.int .i64 (8 * (q : Int))) (by kernel_rfl) rfl fun ev Z hI hf hx => ?_
            have e60 : ev (.tmp 60) = .int .i64 (q : Int) := holds_valF (hx (.tmp 60)) (by kernel_rfl)
            have k0 : ev (.const (.int .i64 8)) = .int .i64 8 := holds_valF (hx (.const (.int .i64 8))) (by kernel_rfl)
            simp [execOp, e60, k0, go_sem, hq8]
          · refine OblF.pure rfl (.int .i64 (16 + 8 * (q : Int))) (by kernel_rfl) rfl fun ev Z hI hf hx => ?_
            have e61 : ev (.tmp 61) = .int .i64 (8 * (q : Int)) := holds_valF (hx (.tmp 61)) (by kernel_rfl)
            have k0 : ev (.const (.int .i64 16)) = .int .i64 16 := holds_valF (hx (.const (.int .i64 16))) (by kernel_rfl)
            simp [execOp, e61, k0, go_sem, hq16]
          · refine OblF.pure rfl (.slice (cutA A7 c7 (16 + 8 * q)) (y0.length - (16 + 8 * q)) (c7 - (16 + 8 * q))) (by kernel_rfl) rfl fun ev Z hI hf hx => ?_
            have e59 : ev (.tmp 59) = .slice A7 y0.length c7 := holds_valF (hx (.tmp 59)) (by kernel_rfl)
            have e62 : ev (.tmp 62) = .int .i64 (16 + 8 * (q : Int)) := holds_valF (hx (.tmp 62)) (by kernel_rfl)
            have h1 := run_fromB Z A7 y0.length c7 (16 + 8 * q) (16 + 8 * (q : Int)) (by simp) (by omega) hcap
            simp [execOp, e59, e62, go_sem, Instr.sliceAt, h1]
          · exact OblF.move rfl _ (Or.inl rfl) (by kernel_rfl) rfl
          · refine OblF.pure rfl (.int .u32 (E : Int)) (by kernel_rfl) rfl fun ev Z hI hf hx => ?_
            have e64 : ev (.tmp 64) = .int .i64 (E : Int) := holds_valF (hx (.tmp 64)) (by kernel_rfl)
            simp [execOp, e64, go_sem, hEw]
          · refine OblF.pure rfl (.int .u32 ((E : Int) * 67108864)) (by kernel_rfl) rfl fun ev Z hI hf hx => ?_
            have e65 : ev (.tmp 65) = .int .u32 (E : Int) := holds_valF (hx (.tmp 65)) (by kernel_rfl)
            have k0 : ev (.const (.int .u64 26)) = .int .u64 26 := holds_valF (hx (.const (.int .u64 26))) (by kernel_rfl)
            simp [execOp, e65, k0, go_sem, hE26]
          · exact OblF.move rfl _ (Or.inl rfl) (by kernel_rfl) rfl
          · refine OblF.pure rfl (.int .u32 ((M : Int) * 512)) (by kernel_rfl) rfl fun ev Z hI hf hx => ?_
            have e67 : ev (.tmp 67) = .int .u32 (M : Int) := holds_valF (hx (.tmp 67)) (by kernel_rfl)
            have k0 : ev (.const (.int .u64 9)) = .int .u64 9 := holds_valF (hx (.const (.int .u64 9))) (by kernel_rfl)
            simp [execOp, e67, k0, go_sem, hM9]
          · refine OblF.pure rfl (.int .u32 (bits .or .u32 ((E : Int) * 67108864) ((M : Int) * 512))) (by kernel_rfl) rfl fun ev Z hI hf hx => ?_
            have e66 : ev (.tmp 66) = .int .u32 ((E : Int) * 67108864) := holds_valF (hx (.tmp 66)) (by kernel_rfl)
            have e68 : ev (.tmp 68) = .int .u32 ((M : Int) * 512) := holds_valF (hx (.tmp 68)) (by kernel_rfl)
            simp [execOp, e66, e68, go_sem]
          · refine OblF.pure rfl (.pointer (some ⟨gA, 2, none⟩)) (by kernel_rfl) rfl fun ev Z hI hf hx => ?_
            have e9 : ev (.tmp 9) = .pointer (some ⟨gA, 0, none⟩) := holds_valF (hx (.tmp 9)) (by kernel_rfl)
            simp [execOp, e9, go_sem]
          · refine OblF.pure rfl (.int .i64 (tv : Int)) (by kernel_rfl) rfl fun ev Z hI hf hx => ?_
            have e70 : ev (.tmp 70) = .pointer (some ⟨gA, 2, none⟩) := holds_valF (hx (.tmp 70)) (by kernel_rfl)
            have d4 := (Below.cell (p := ⟨gA, 2, none⟩) hI hgA).trans y2
            simp [execOp, e70, go_sem, d4]
          · refine OblF.pure rfl (.int .u32 (tv : Int)) (by kernel_rfl) rfl fun ev Z hI hf hx => ?_
            have e71 : ev (.tmp 71) = .int .i64 (tv : Int) := holds_valF (hx (.tmp 71)) (by kernel_rfl)
            simp [execOp, e71, go_sem, hvw]
          · refine OblF.pure rfl (.int .u32 (wd : Int)) (by kernel_rfl) rfl fun ev Z hI hf hx => ?_
            have e69 : ev (.tmp 69) = .int .u32 (bits .or .u32 ((E : Int) * 67108864) ((M : Int) * 512)) := holds_valF (hx (.tmp 69)) (by kernel_rfl)
            have e72 : ev (.tmp 72) = .int .u32 (tv : Int) := holds_valF (hx (.tmp 72)) (by kernel_rfl)
            simp [execOp, e69, e72, go_sem, OR.out]
          · refine OblF.step rfl fun ev Z hI hf hx => ?_
            have e41 : ev (.tmp 73) = .int .u32 (wd : Int) := holds_valF (hx (.tmp 73)) (by kernel_rfl)
            refine ⟨.slice (some ⟨Z.heap.size, 0, none⟩) 1 1, Z.alloc (.cells #[.int .u32 (wd : Int)] 27), ?_, ?_, ?_, ?_⟩
            · simp [execOp, e41, go_sem]
            · exact Below.trans hI (((Below.refl Z.heap.size Z).alloc (Nat.le_refl _) _).mono (Below.size hI))
            · exact (Below.refl Z.heap.size Z).alloc (Nat.le_refl _) _
            · exact ⟨Z.heap.size, rfl, lit_r32 [wd] _ 1 _ Z rfl rfl (by simp [wv]) (by intro z hz; simp at hz; omega)⟩
          · refine OblF.call rfl 78 #[.tmp 74] _ rfl Try.f78 Try.func78 (by kernel_rfl) (by kernel_rfl) rfl fun ev Z hI hf hx => ?_
            obtain ⟨gw, e42, hr42⟩ := oneW_of (x := wd) (hx (.tmp 74)) (by kernel_rfl)
            simp only [List.map_toArray, List.map_cons, List.map_nil, e42]
            refine (ref6_words _ 1 1 [wd] Z hr42 (by omega)).mono ?_
            rintro e W' ⟨v, rfl, o, hbW⟩
            obtain ⟨A9, c9, rfl, r9⟩ := o.r8
            exact ⟨_, rfl, Below.trans hI (hbW.mono (Below.size hI)), hbW, A9, c9, rfl, r9⟩
          intro aa Z hI hf hsz hdf hold hv
          have v63 : aa.tmps.getD 63 undef = .slice (cutA A7 c7 (16 + 8 * q)) (y0.length - (16 + 8 * q)) (c7 - (16 + 8 * q)) := holds_valF (hv 4 (by decide)) (by kernel_rfl)
          obtain ⟨A9, c9, v75, r9⟩ := b8_of (l := wB [wd]) (hv 16 (by decide)) (by kernel_rfl)
          have hw4 : (wB [wd]).length = 4 := by rw [wB_len]; rfl
          have hwb : wB [wd] = be wd 4 := by simp [wB]
          rw [hw4] at v75 r9
          rw [hwb] at r9
          have v75 : aa.tmps.getD 75 undef = .slice A9 4 c9 := v75
          rw [← HSL.out] at v63
          have ha := act_puts [59, 60, 61, 62, 63, 64, 65, 66, 67, 68, 69, 70, 71, 72, 73, 74, 75, 76] (by kernel_rfl) hsz hdf hold
          simp only [putAll, v63, v75] at ha
          generalize aa.tmps.getD 59 undef = x59 at ha
          generalize aa.tmps.getD 60 undef = x60 at ha
          generalize aa.tmps.getD 61 undef = x61 at ha
          generalize aa.tmps.getD 62 undef = x62 at ha
          generalize aa.tmps.getD 64 undef = x64 at ha
          generalize aa.tmps.getD 65 undef = x65 at ha
          generalize aa.tmps.getD 66 undef = x66 at ha
          generalize aa.tmps.getD 67 undef = x67 at ha
          generalize aa.tmps.getD 68 undef = x68 at ha
          generalize aa.tmps.getD 69 undef = x69 at ha
          generalize aa.tmps.getD 70 undef = x70 at ha
          generalize aa.tmps.getD 71 undef = x71 at ha
          generalize aa.tmps.getD 72 undef = x72 at ha
          generalize aa.tmps.getD 73 undef = x73 at ha
          generalize aa.tmps.getD 74 undef = x74 at ha
          generalize aa.tmps.getD 76 undef = x76 at ha
          clear v63 v75 hv hold hsz hdf
          subst ha
          simp only [List.toList_toArray, List.drop_succ_cons, List.drop_zero, Act.put, List.setIfInBounds_toArray, List.set_cons_succ, List.set_cons_zero]
          have oZ := own8_kept oA hI
          rw [← HSL.out] at oZ
          have bZ := bA.trans (Below.mono hI bA.size)
          have hofL : 16 + 8 * q + 4 ≤ L.length := by rw [HSL.out]; exact hfq
          clear hI hf hw4 hwb hEw hE26 hM9 hvw hq8 hq16 y2 hgA OR oA bA
          go_wp2_with (with_reducible refine wpList_copyW rfl (.tmp 63) (.tmp 75) rfl V.heap.size A7 L c7 oZ (16 + 8 * q) wd hofL (by with_unfolding_all rfl) Z.heap.size A9 c9 (by with_unfolding_all rfl) r9 V bZ ?_; intro w8 o8 b8)
          rw [← HSN.out, HSL.out] at o8
          go_roundw
          case rel => exact ⟨q + 1, by omega, by go_num, o8, b8⟩
          case measure => simp [intOf]; omega
        · have g3 : ¬ (q : Int) < (tups.length : Int) := by omega
          obtain rfl : q = tups.length := by omega
          have b8 := hb.trans (hbr.mono hb.size)
          have o8 := own8_base ho (Nat.le_of_lt hlt)
          go_wp2_with fail
          go_ret
          exact ⟨_, rfl, o8, b8⟩
end Go.Proofs.Ytnchgmemajmkjaa
