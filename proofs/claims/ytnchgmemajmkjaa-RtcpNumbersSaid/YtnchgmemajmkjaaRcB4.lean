/- Contracts: limelightref6.body: Fir. -/
import Derived.Test.YtnchgmemajmkjaaRcB
import Derived.Test.YtnchgmemajmkjaaRegF
namespace Go.Proofs.Ytnchgmemajmkjaa
open Go.RowKit
set_option linter.unusedVariables false
set_option linter.unusedSimpArgs false
set_option maxRecDepth 20000

/-- A number with its report's word. -/
def firB (x : Nat × Int) : List UInt8 := be x.1 4 ++ be (x.2.toNat * 16777216) 4
theorem firB_len (x : Nat × Int) : (firB x).length = 8 := by simp [firB, be_len]
theorem firB_w (a : Nat) (n : Int) : firB (a, n) = wB [a, n.toNat * 16777216] := by simp [firB, wB]
theorem fir_take {l : List Nat} {m : List Int} {q : Nat} (h1 : q < l.length) (h2 : q < m.length) : ((l.zip m).take q).flatMap firB ++ wB [l[q], m[q].toNat * 16777216] = ((l.zip m).take (q + 1)).flatMap firB := by
  have h : q < (l.zip m).length := by rw [List.length_zip]; omega
  rw [List.take_add_one, List.flatMap_append, List.getElem?_eq_getElem h, ← firB_w]
  simp
/-- What stands in a region that keeps all that was. -/
def keepF (w : World) : Frame where
  I := fun W => Below w.heap.size w W
  Fr := fun a b => Below a.heap.size a b
  refl := fun w _ => Below.refl _ w
  trans := fun a b c h k => h.trans (k.mono h.size)
  drew := fun W h => ⟨h.trans ((below_drewN _ W 1).mono h.size), below_drewN _ W 1⟩
def twoC (w : World) (x y : Nat) : ClF (keepF w) := .pred (fun v W => ∃ g, v = .slice (some ⟨g, 0, none⟩) 2 2 ∧ R32 W W.heap.size (some ⟨g, 0, none⟩) 2 2 [x, y]) (fun v a b _ hf _ h => by
  obtain ⟨g, e, hr⟩ := h
  exact ⟨g, e, hr.on hf⟩)
theorem two_of {w : World} {x y : Nat} {c : ClF (keepF w)} {v : Value} {W : World} (h : c.holds v W) (e : c = twoC w x y) : ∃ g, v = .slice (some ⟨g, 0, none⟩) 2 2 ∧ R32 W W.heap.size (some ⟨g, 0, none⟩) 2 2 [x, y] := by subst e; exact h
def b8C (w : World) (l : List UInt8) : ClF (keepF w) := .pred (fun v W => ∃ A c, v = .slice A l.length c ∧ R8 W W.heap.size A l.length c l) (fun v a b _ hf _ h => by
  obtain ⟨A, c, e, hr⟩ := h
  exact ⟨A, c, e, hr.on hf⟩)
theorem b8_of {w : World} {l : List UInt8} {c : ClF (keepF w)} {v : Value} {W : World} (h : c.holds v W) (e : c = b8C w l) : ∃ A c, v = .slice A l.length c ∧ R8 W W.heap.size A l.length c l := by subst e; exact h
set_option maxHeartbeats 4000000 in
theorem body_4 (x : Rv) (w : World) (hx : IsR w w.heap.size x) (hk : x.r.kind = 4) (hl0 : x.r.abouts.length = x.r.nums.length) (hle0 : x.r.abouts.length ≤ 16) (hnn0 : ∀ n ∈ x.r.nums, 0 ≤ n ∧ n ≤ 255) : Calls Try.prog 53 #[x.val] w (BodyOut w x.r) := by
  have htc : x.r.tc = (206, 4) := by unfold Rep.tc; rw [hk]; rfl
  have htl : x.r.tail = be x.r.src 4 ++ (be 0 4 ++ (x.r.abouts.zip x.r.nums).flatMap firB) := by unfold Rep.tail; rw [hk]; rfl
  have HTC := Lib.hid htc
  have HTL := Lib.hid htl
  clear htc htl
  obtain ⟨⟨kind, src, about, tups, abouts, nums, rate, ty, count, body⟩, At, ct, Aa, ca, An, cn, Ab, cb⟩ := x
  obtain ⟨t1, t2, t3, t4, kinds⟩ := hx
  obtain ⟨h1, h2, h3, h4, h5, h6, h7, h8, h9, h10⟩ := kinds
  simp only at hk h1 h2 h3 h4 h5 h6 h7 h8 h9 h10 t1 t2 t3 t4
  subst hk
  have hb : Below w.heap.size w (w.alloc (.cells #[.int .i64 4, .int .u32 (src : Int), .int .u32 (about : Int), .slice At tups.length ct, .slice Aa abouts.length ca, .slice An nums.length cn, .int .u64 (rate : Int), .int .i64 ty, .int .i64 count, .slice Ab body.length cb] 33)) := (Below.refl _ w).alloc (Nat.le_refl _) _
  have hZ : Blk (w.alloc (.cells #[.int .i64 4, .int .u32 (src : Int), .int .u32 (about : Int), .slice At tups.length ct, .slice Aa abouts.length ca, .slice An nums.length cn, .int .u64 (rate : Int), .int .i64 ty, .int .i64 count, .slice Ab body.length cb] 33)) w.heap.size 33 #[.int .i64 4, .int .u32 (src : Int), .int .u32 (about : Int), .slice At tups.length ct, .slice Aa abouts.length ca, .slice An nums.length cn, .int .u64 (rate : Int), .int .i64 ty, .int .i64 count, .slice Ab body.length cb] := Blk.new _ _ _
  have hsz : (w.alloc (.cells #[.int .i64 4, .int .u32 (src : Int), .int .u32 (about : Int), .slice At tups.length ct, .slice Aa abouts.length ca, .slice An nums.length cn, .int .u64 (rate : Int), .int .i64 ty, .int .i64 count, .slice Ab body.length cb] 33)).heap.size = w.heap.size + 1 := by simp
  simp only [Rv.val, Rv.cells]
  have hl : abouts.length = nums.length := hl0
  have hle : abouts.length ≤ 16 := hle0
  have hnn : ∀ n ∈ nums, 0 ≤ n ∧ n ≤ 255 := hnn0
  clear hl0 hle0 hnn0
  have HLN := Lib.hid hl
  have t2 := t2.on hb
  have t3 := t3.on hb
  clear t1 t4 h3 h4 h5 h6 h7 h8 h9 h10 hl
  go_enter Try.func53, Try.ntmps53
  go_upto_region 15 with (fail)
  generalize (w.alloc (.cells #[.int .i64 4, .int .u32 (src : Int), .int .u32 (about : Int), .slice At tups.length ct, .slice Aa abouts.length ca, .slice An nums.length cn, .int .u64 (rate : Int), .int .i64 ty, .int .i64 count, .slice Ab body.length cb] 33)) = V at hb hZ hsz t2 t3 ⊢
  obtain ⟨y0, y1, y2, y3, y4, y5, y6, y7, y8, y9⟩ := blk10 hZ
  have HS := Lib.hid hsz
  have hlt : w.heap.size < V.heap.size := by omega
  clear hsz y0 y2 y3 y6 y7 y8 y9
  go_wp2_with fail
  ((with_reducible refine (words2 src 0 (src : Int) (0 : Int) rfl rfl h2 (by omega) V _ rfl).mono ?_); rintro e w1 ⟨v1, rfl, o1, b1⟩)
  have b2 : Below V.heap.size V w1 := ((Below.refl _ V).alloc (Nat.le_refl _) _).trans (b1.mono (by simp))
  have o1 := own8_base o1 (b' := V.heap.size) (by simp)
  have z4 := (b2.cell (p := ⟨w.heap.size, 4, none⟩) hlt).trans y4
  clear b1 y1
  go_wp2_with fail
  clear z4
  go_loopw [10, 11, 75] (fun v _ iv wr => ∃ q : Nat, q ≤ abouts.length ∧ iv = .int .i64 (q : Int) ∧ Own8 wr V.heap.size v (wB [src, 0] ++ ((abouts.zip nums).take q).flatMap firB) ∧ Below V.heap.size V wr) (fun _ _ iv _ => abouts.length - (intOf iv).toNat)
  case atStart => exact ⟨0, by omega, rfl, by simpa using o1, b2⟩
  case round =>
    obtain ⟨q, hq, rfl, ho, hbr⟩ := hrel
    clear o1 b2
    by_cases hql : q < abouts.length
    · have g3 : decide ((q : Int) < (abouts.length : Int)) = true := by simp; omega
      have g4 : (q : Int) < (abouts.length : Int) := by omega
      have g5 : (q : Int) < (nums.length : Int) := by have := HLN.out; omega
      have hqn : q < nums.length := by have := HLN.out; omega
      have htk := fir_take hql hqn
      have hxa := t2.2.2.1 _ (List.getElem_mem hql)
      have hxn := hnn _ (List.getElem_mem hqn)
      obtain ⟨b, off, rfl, hbl, k0⟩ := t2.at hql
      obtain ⟨b', off', rfl, hbl', k1⟩ := t3.at hqn
      have c0 := (hbr.cell (p := ⟨b, off + q, none⟩) hbl).trans k0
      have c1 := (hbr.cell (p := ⟨b', off' + q, none⟩) hbl').trans k1
      have c4 := (hbr.cell (p := ⟨w.heap.size, 4, none⟩) hlt).trans y4
      have c5 := (hbr.cell (p := ⟨w.heap.size, 5, none⟩) hlt).trans y5
      have hB := hbr.size
      have hlen : (wB [src, 0] ++ ((abouts.zip nums).take q).flatMap firB).length ≤ 1000 := by
        rw [List.length_append, flat_length (k := 8) firB_len, wB_len, List.length_take]
        simp
        omega
      have htk : (wB [src, 0] ++ ((abouts.zip nums).take q).flatMap firB) ++ wB [abouts[q], nums[q].toNat * 16777216] = wB [src, 0] ++ ((abouts.zip nums).take (q + 1)).flatMap firB := by rw [List.append_assoc, htk]
      generalize wB [src, 0] ++ ((abouts.zip nums).take q).flatMap firB = L at ho hlen htk
      have htk := Lib.hid htk
      clear k0 k1 t2 t3 hnn
      generalize abouts[q] = a at c0 htk hxa
      generalize nums[q] = n at c1 htk hxn
      obtain ⟨n, rfl⟩ : ∃ m : Nat, n = (m : Int) := ⟨n.toNat, by omega⟩
      simp only [Int.toNat_natCast] at htk
      have ha0 : a < wr.heap.size → True := fun _ => trivial
      clear ha0
      have hbw : b < wr.heap.size := by omega
      have hbw' : b' < wr.heap.size := by omega
      have hwg : w.heap.size < wr.heap.size := by omega
      have hwl : (wB [a, n * 16777216]).length = 8 := by rw [wB_len]; rfl
      go_upto_region 19 with (fail)
      obtain ⟨Ar, cr, rfl, hr⟩ := ho.r8
      refine wp_region_ft (F := keepF wr) 15 [.val (.slice Ar L.length cr), .val (.pointer (some ⟨w.heap.size, 4, none⟩)), .val (.slice (some ⟨b, off, none⟩) abouts.length ca), .val (.int .i64 (q : Int)), .val (.pointer (some ⟨b, off + q, none⟩)), .val (.int .u32 (a : Int)),
        .val (.pointer (some ⟨w.heap.size, 5, none⟩)), .val (.slice (some ⟨b', off', none⟩) nums.length cn), .val (.int .i64 (q : Int)), .val (.pointer (some ⟨b', off' + q, none⟩)), .val (.int .i64 (n : Int)), .val (.int .u32 (n : Int)), .val (.int .u32 ((n : Int) * 16777216)), twoC wr a (n * 16777216), b8C wr (wB [a, n * 16777216])]
        (by kernel_rfl) (by kernel_rfl) (by kernel_rfl) (by decide) (by kernel_rfl) (Below.refl _ _) (AllOblF.upto ⟨?_, ?_, ?_, ?_, ?_, ?_, ?_, ?_, ?_, ?_, ?_, ?_, ?_, ?_, ?_, trivial⟩) ?_
      · exact OblF.move rfl _ (Or.inl rfl) (by kernel_rfl) rfl
      · refine OblF.pure rfl (.pointer (some ⟨w.heap.size, 4, none⟩)) (by kernel_rfl) rfl fun ev W hI hf hx => ?_
        have e1 : ev (.tmp 1) = .pointer (some ⟨w.heap.size, 0, none⟩) := holds_valF (hx (.tmp 1)) (by kernel_rfl)
        simp [execOp, e1, go_sem]
      · refine OblF.pure rfl (.slice (some ⟨b, off, none⟩) abouts.length ca) (by kernel_rfl) rfl fun ev W hI hf hx => ?_
        have e79 : ev (.tmp 79) = .pointer (some ⟨w.heap.size, 4, none⟩) := holds_valF (hx (.tmp 79)) (by kernel_rfl)
        have d4 := (Below.cell (p := ⟨w.heap.size, 4, none⟩) hI hwg).trans c4
        simp [execOp, e79, go_sem, d4]
      · exact OblF.move rfl _ (Or.inl rfl) (by kernel_rfl) rfl
      · refine OblF.pure rfl (.pointer (some ⟨b, off + q, none⟩)) (by kernel_rfl) rfl fun ev W hI hf hx => ?_
        have e80 : ev (.tmp 80) = .slice (some ⟨b, off, none⟩) abouts.length ca := holds_valF (hx (.tmp 80)) (by kernel_rfl)
        have e81 : ev (.tmp 81) = .int .i64 (q : Int) := holds_valF (hx (.tmp 81)) (by kernel_rfl)
        simp [execOp, e80, e81, go_sem, g4, hql]
      · refine OblF.pure rfl (.int .u32 (a : Int)) (by kernel_rfl) rfl fun ev W hI hf hx => ?_
        have e82 : ev (.tmp 82) = .pointer (some ⟨b, off + q, none⟩) := holds_valF (hx (.tmp 82)) (by kernel_rfl)
        have d4 := (Below.cell (p := ⟨b, off + q, none⟩) hI hbw).trans c0
        simp [execOp, e82, go_sem, d4]
      · refine OblF.pure rfl (.pointer (some ⟨w.heap.size, 5, none⟩)) (by kernel_rfl) rfl fun ev W hI hf hx => ?_
        have e1 : ev (.tmp 1) = .pointer (some ⟨w.heap.size, 0, none⟩) := holds_valF (hx (.tmp 1)) (by kernel_rfl)
        simp [execOp, e1, go_sem]
      · refine OblF.pure rfl (.slice (some ⟨b', off', none⟩) nums.length cn) (by kernel_rfl) rfl fun ev W hI hf hx => ?_
        have e84 : ev (.tmp 84) = .pointer (some ⟨w.heap.size, 5, none⟩) := holds_valF (hx (.tmp 84)) (by kernel_rfl)
        have d4 := (Below.cell (p := ⟨w.heap.size, 5, none⟩) hI hwg).trans c5
        simp [execOp, e84, go_sem, d4]
      · exact OblF.move rfl _ (Or.inl rfl) (by kernel_rfl) rfl
      · refine OblF.pure rfl (.pointer (some ⟨b', off' + q, none⟩)) (by kernel_rfl) rfl fun ev W hI hf hx => ?_
        have e85 : ev (.tmp 85) = .slice (some ⟨b', off', none⟩) nums.length cn := holds_valF (hx (.tmp 85)) (by kernel_rfl)
        have e86 : ev (.tmp 86) = .int .i64 (q : Int) := holds_valF (hx (.tmp 86)) (by kernel_rfl)
        simp [execOp, e85, e86, go_sem, g5, hqn]
      · refine OblF.pure rfl (.int .i64 (n : Int)) (by kernel_rfl) rfl fun ev W hI hf hx => ?_
        have e87 : ev (.tmp 87) = .pointer (some ⟨b', off' + q, none⟩) := holds_valF (hx (.tmp 87)) (by kernel_rfl)
        have d4 := (Below.cell (p := ⟨b', off' + q, none⟩) hI hbw').trans c1
        simp [execOp, e87, go_sem, d4]
      · refine OblF.pure rfl (.int .u32 (n : Int)) (by kernel_rfl) rfl fun ev W hI hf hx => ?_
        have e88 : ev (.tmp 88) = .int .i64 (n : Int) := holds_valF (hx (.tmp 88)) (by kernel_rfl)
        have hn2 : IntKind.u32.wrap (n : Int) = (n : Int) := by rw [IntKind.wrap_u32]; omega
        simp [execOp, e88, go_sem, hn2]
      · refine OblF.pure rfl (.int .u32 ((n : Int) * 16777216)) (by kernel_rfl) rfl fun ev W hI hf hx => ?_
        have e89 : ev (.tmp 89) = .int .u32 (n : Int) := holds_valF (hx (.tmp 89)) (by kernel_rfl)
        have k0 : ev (.const (.int .u64 24)) = .int .u64 24 := holds_valF (hx (.const (.int .u64 24))) (by kernel_rfl)
        have hn2 : IntKind.u32.wrap ((n : Int) * 16777216) = (n : Int) * 16777216 := by rw [IntKind.wrap_u32]; omega
        simp [execOp, e89, k0, go_sem, hn2]
      · refine OblF.step rfl fun ev W hI hf hx => ?_
        have e83 : ev (.tmp 83) = .int .u32 (a : Int) := holds_valF (hx (.tmp 83)) (by kernel_rfl)
        have e90 : ev (.tmp 90) = .int .u32 ((n : Int) * 16777216) := holds_valF (hx (.tmp 90)) (by kernel_rfl)
        refine ⟨.slice (some ⟨W.heap.size, 0, none⟩) 2 2, W.alloc (.cells #[.int .u32 (a : Int), .int .u32 ((n : Int) * 16777216)] 27), ?_, ?_, ?_, ?_⟩
        · simp [execOp, e83, e90, go_sem]
        · exact Below.trans hI (((Below.refl W.heap.size W).alloc (Nat.le_refl _) _).mono (Below.size hI))
        · exact (Below.refl W.heap.size W).alloc (Nat.le_refl _) _
        · exact ⟨W.heap.size, rfl, lit_r32 [a, n * 16777216] _ 2 _ W rfl rfl (by simp [wv]) (by intro z hz; simp at hz; omega)⟩
      · refine OblF.call rfl 78 #[.tmp 91] _ rfl Try.f78 Try.func78 (by kernel_rfl) (by kernel_rfl) rfl fun ev W hI hf hx => ?_
        obtain ⟨g, e91, hr91⟩ := two_of (x := a) (y := n * 16777216) (hx (.tmp 91)) (by kernel_rfl)
        simp only [List.map_toArray, List.map_cons, List.map_nil, e91]
        refine (ref6_words _ 2 2 [a, n * 16777216] W hr91 (by omega)).mono ?_
        rintro e W' ⟨v, rfl, o, hbW⟩
        obtain ⟨A9, c9, rfl, r9⟩ := o.r8
        exact ⟨_, rfl, Below.trans hI (hbW.mono (Below.size hI)), hbW, A9, c9, rfl, r9⟩
      intro aa W hI hf hsz hdf hold hv
      have v78 : aa.tmps.getD 78 undef = .slice Ar L.length cr := holds_valF (hv 0 (by decide)) (by kernel_rfl)
      obtain ⟨A9, c9, v92, r9⟩ := b8_of (hv 14 (by decide)) (by kernel_rfl)
      have v92' : aa.tmps.getD 92 undef = .slice A9 (wB [a, n * 16777216]).length c9 := v92
      have ha := act_puts [78, 79, 80, 81, 82, 83, 84, 85, 86, 87, 88, 89, 90, 91, 92, 93, 10] (by kernel_rfl) hsz hdf hold
      simp only [putAll, v78, v92'] at ha
      generalize aa.tmps.getD 79 undef = x79 at ha
      generalize aa.tmps.getD 80 undef = x80 at ha
      generalize aa.tmps.getD 81 undef = x81 at ha
      generalize aa.tmps.getD 82 undef = x82 at ha
      generalize aa.tmps.getD 83 undef = x83 at ha
      generalize aa.tmps.getD 84 undef = x84 at ha
      generalize aa.tmps.getD 85 undef = x85 at ha
      generalize aa.tmps.getD 86 undef = x86 at ha
      generalize aa.tmps.getD 87 undef = x87 at ha
      generalize aa.tmps.getD 88 undef = x88 at ha
      generalize aa.tmps.getD 89 undef = x89 at ha
      generalize aa.tmps.getD 90 undef = x90 at ha
      generalize aa.tmps.getD 91 undef = x91 at ha
      generalize aa.tmps.getD 93 undef = x93 at ha
      generalize aa.tmps.getD 10 undef = x10 at ha
      clear v78 v92 v92' hv hold hsz hdf
      subst ha
      simp only [List.toList_toArray, List.drop_succ_cons, List.drop_zero, Act.put, List.setIfInBounds_toArray, List.set_cons_succ, List.set_cons_zero]
      have b6 : Below V.heap.size V W := hbr.trans (Below.mono hI hB)
      have ho5 := own8_kept ho hI
      rw [hwl] at r9
      have hbb : L.length + 8 ≤ 140737488355328 := by omega
      have HBB := Lib.hid hbb
      clear hbb hlen hI hf hr ho c0 c1 c4 c5 hbr
      rw [hwl]
      go_wp2_with (at_builtin; ((with_reducible refine wpList_append8 rfl (.tmp 78) (.tmp 92) rfl rfl V.heap.size _ _ (by with_unfolding_all rfl) ho5 W.heap.size A9 8 c9 _ (by with_unfolding_all rfl) r9 HBB.out b6.size ?_); intro v7 w7 ha7))
      have b7 := below_grown b6 b6.size ha7.2.1 (fun k hk => (World.ownsRow.lt ho5 k hk).1)
      have o7 := ha7.1
      rw [htk.out] at o7
      clear ha7 ho5 r9 b6 htk HBB
      go_roundw
      case rel => exact ⟨q + 1, by omega, by go_num, o7, b7⟩
      case measure => simp [intOf]; omega
    · have g3 : ¬ (q : Int) < (abouts.length : Int) := by omega
      rw [List.take_of_length_le (by rw [List.length_zip, ← HLN.out]; omega)] at ho
      generalize hL : wB [src, 0] ++ (abouts.zip nums).flatMap firB = L at ho
      have HL := Lib.hid hL
      clear hL
      obtain ⟨Ar, cr, rfl, hr⟩ := ho.r8
      have b9 := hb.trans (hbr.mono hb.size)
      clear t2 t3 hnn y4 y5
      go_wp2_with fail
      refine bodyPost_ret (v := .tuple #[.int .i64 206, .int .i64 4, .slice Ar L.length cr]) (by simp [results, Try.results53, go_sem]) rfl ?_
      refine ⟨Ar, L.length, cr, by rw [HTC.out], ?_, b9⟩
      rw [HTL.out]
      have e : L = be src 4 ++ (be 0 4 ++ (abouts.zip nums).flatMap firB) := by rw [← HL.out]; simp [wB]
      rw [← e]
      exact hr
end Go.Proofs.Ytnchgmemajmkjaa
