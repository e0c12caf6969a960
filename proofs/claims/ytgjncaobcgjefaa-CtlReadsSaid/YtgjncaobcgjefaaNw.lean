/- append of a string's bytes onto a row of bytes that the call owns. No program's function. Contract: limelightref8.write, of layers. -/
import Derived.Test.YtgjncaobcgjefaaBase
import Derived.Lib.AppendStr
import Derived.Test.YtgjncaobcgjefaaCtY
import Derived.Test.YtgjncaobcgjefaaRegP
namespace Go.Proofs.Ytgjncaobcgjefaa
open Go.RowKit
set_option linter.unusedVariables false
set_option linter.unusedSimpArgs false
set_option maxRecDepth 20000

theorem str_bv8 (l : List UInt8) : Lib.strCells ⟨l.toArray⟩ = l.map bv := by
  simp [Lib.strCells, bv]
theorem wpList_appendS8 {w : World} {ops : Array Oper} {rest : List Oper} {o : Oper} {a : Act} {Q : Exit → Act → World → Prop} (hgd : o.guard = none) (s x : Operand)
    (ho : o.op = .call { callee := .builtin .append, args := #[s, x], argTypes := #[30, 9] })
    (base : Nat) (v : Value) (l : List UInt8) (hs : a.eval s = v) (hown : Own8 w base v l) (r : List UInt8) (hx : a.eval x = .string ⟨r.toArray⟩)
    (hb : l.length + r.length ≤ 1000000) (hbase : base ≤ w.heap.size)
    (h : ∀ v' w', Own8 w' base v' (l ++ r) ∧ w.grownBy w' v.ownBlock → wpList Try.prog ops Q rest (a.put o.dst v') w') : wpList Try.prog ops Q (o :: rest) a w := by
  obtain ⟨i0, hi0, hz0, hz1, hz2⟩ := info_parts u8_info
  have hsz : (⟨r.toArray⟩ : ByteArray).size = r.length := by simp [ByteArray.size]
  refine Lib.wpList_append_own_string w hgd s x 30 9 ho base 5 i0 Try.underlying30 Try.underlying9 hi0 hz0 hz1 hz2 v l.length (l.map bv) hs hown ⟨r.toArray⟩ hx (by rw [hsz]; simp only [maxLen]; omega) (by rw [hsz]; omega) hbase ?_
  intro v' w' h1 h2 _
  refine h v' w' ⟨?_, h2⟩
  unfold Own8
  rw [hsz, str_bv8] at h1
  rw [List.length_append, List.map_append]
  exact h1
end Go.Proofs.Ytgjncaobcgjefaa
namespace Go.Proofs.Ytgjncaobcgjefaa.RP
open Go.RowKit
set_option linter.unusedVariables false
set_option linter.unusedSimpArgs false
set_option maxRecDepth 20000

def ownB (B : Nat) (l : List UInt8) : Cl := .pred (fun v W => ∃ u, v = u ∧ Own8 W B u l) (fun v w w' hb h => by obtain ⟨u, h1, h2⟩ := h; exact ⟨u, h1, h2.kept8 hb⟩)
theorem ownB_of {B : Nat} {l : List UInt8} {c : Cl} {v : Value} {W : World} (h : c.holds v W) (e : c = ownB B l) : ∃ u, v = u ∧ Own8 W B u l := by subst e; exact h
theorem ownB_ret {B : Nat} {l : List UInt8} {c : Cl} {w w' : World} {e : Ending} (hc : c = ownB B l) (h : B ≤ w.heap.size ∧ OwnOut w l e w') : ∃ v, e = .returned v ∧ Below w.heap.size w w' ∧ c.holds v w' := by
  subst hc
  obtain ⟨hB, v, rfl, ho, hb⟩ := h
  exact ⟨v, rfl, hb, v, rfl, ho.mono8 hB⟩
def put6 (s H : Nat) : List UInt8 := ([] ++ be s 4) ++ be H 2
theorem put6_len (s H : Nat) : (put6 s H).length = 6 := by simp [put6, be_len]
theorem own_grown8 {w w' : World} {b size n : Nat} {e : TypeId} {v : Value} {xs : List Value} {row : Option Nat} (h : w.ownsRow b e size v n xs) (hg : w.grownBy w' row) (hne : ∀ k, v.ownBlock = some k → row ≠ some k) : w'.ownsRow b e size v n xs :=
  World.ownsRow.kept h hg (by
    rcases hv : v.ownBlock with _ | k
    · exact .inl rfl
    · exact .inr fun e => hne k hv e.symm)
def layF (l : List Lay) : List (UInt8 × List UInt8) := l.map fun x => (2, layB x)
theorem layF_take {l : List Lay} {q : Nat} (h : q < l.length) : fldB (layF (l.take (q + 1))) = fldB (layF (l.take q)) ++ fld 2 (layB l[q]) := by
  rw [List.take_add_one, List.getElem?_eq_getElem h]
  unfold layF fldB
  rw [List.map_append, List.flatMap_append]
  simp
theorem layF_len {l : List Lay} (h : ∀ x ∈ l, okL x = true) : (fldB (layF l)).length ≤ 16 * l.length := by
  have := fldB_len (l := layF l) fun p hp => by
    obtain ⟨x, hx, rfl⟩ := List.mem_map.1 hp
    have := layB_len (h x hx)
    show (layB x).length ≤ 14
    omega
  simpa [layF] using this
set_option maxHeartbeats 8000000 in
theorem write_3 (l : List Lay) (A : Option Addr) (n c : Nat) (w : World) (h : RL w w.heap.size A n c l) (hr : rightL l = true) : Calls Try.prog 29 #[.agg #[.int .i64 3, .int .i64 0, .slice A n c, .int .i64 0, .int .i64 0, .int .i64 0, .int .i64 0, .int .i64 0]] w (OwnOut w (bytesK 3 (fldB (layF l)))) := by
  have hr' := rightL_of hr
  have hln := h.1
  have hn3 : n ≤ 3 := by omega
  have hok := hr'.2.1
  clear hr hr'
  have ic : inS8 (hasS 3) 99 = false := by decide
  have il : inS8 (hasS 3) 108 = true := by decide
  have ip : inS8 (hasS 3) 112 = false := by decide
  have ih : inS8 (hasS 3) 104 = false := by decide
  have ik : inS8 (hasS 3) 107 = false := by decide
  have iy : inS8 (hasS 3) 121 = false := by decide
  have ie : inS8 (hasS 3) 101 = false := by decide
  have hM : WMem w #[.int .i64 3, .int .i64 0, .slice A n c, .int .i64 0, .int .i64 0, .int .i64 0, .int .i64 0, .int .i64 0] (.slice none 0 0) [] (w.alloc (.cells #[.int .i64 3, .int .i64 0, .slice A n c, .int .i64 0, .int .i64 0, .int .i64 0, .int .i64 0, .int .i64 0] 25)) := ⟨Blk.new _ _ _, own_nil _ _ _ _, below_alloc _ _, by simp⟩
  have kc := blk8 hM.blk
  have hs := hM.size
  have HOK := Lib.hid hok
  have HLN := Lib.hid hln
  clear hok hln
  go_enter Try.func29, Try.ntmps29
  go_upto_region 2 with (fail)
  generalize w.alloc (.cells #[.int .i64 3, .int .i64 0, .slice A n c, .int .i64 0, .int .i64 0, .int .i64 0, .int .i64 0, .int .i64 0] 25) = W0 at hM kc hs ⊢
  go_wp2_with fail
  refine (ref8_has 3 (by decide) (by decide) _).mono ?_
  rintro e W1 ⟨rfl, b1⟩
  have hM := hM.on b1
  clear b1 kc hs
  have kc := blk8 hM.blk
  have hs := hM.size
  go_wp2_with fail
  refine (ref8_in_c _ _ (hasS_size _)).mono ?_
  rintro e w' ⟨rfl, rfl⟩
  go_wp2_with fail
  clear kc hs
  go_loopw [3, 6, 7, 22] (fun bv _ _ i wr => ∃ q : Nat, q ≤ n ∧ i = .int .i64 (q : Int) ∧ WMem w #[.int .i64 3, .int .i64 0, .slice A n c, .int .i64 0, .int .i64 0, .int .i64 0, .int .i64 0, .int .i64 0] bv (fldB (layF (l.take q))) wr) (fun _ _ _ i _ => n - (intOf i).toNat)
  case atStart => exact ⟨0, by omega, rfl, hM⟩
  clear hM
  obtain ⟨q, hq, rfl, hM⟩ := hrel
  by_cases hlt : q < n
  · have g3 : decide ((q : Int) < (n : Int)) = true := by simp; omega
    have hql : q < l.length := by rw [HLN.out]; exact hlt
    obtain ⟨b, off, rfl, hbl, k0, k1, k2⟩ := (h.below hM.below).at hql
    have hin := h.2.1 _ (List.getElem_mem hql)
    have hoq := HOK.out _ (List.getElem_mem hql)
    have htk := Lib.hid (layF_take hql)
    have hLe := layF_len (l := l.take q) fun x hx => HOK.out x (List.mem_of_mem_take hx)
    have hLen : (fldB (layF (l.take q))).length ≤ 48 := by
      rw [List.length_take] at hLe
      omega
    generalize l[q] = x at k0 k1 k2 hin hoq htk
    obtain ⟨R, hR⟩ : ∃ R : List UInt8, x.rid = ⟨R.toArray⟩ := ⟨x.rid.data.toList, by simp⟩
    have hR8 := (layB_len hoq).2.1
    have hhb := (okL_of hoq).2
    have hsb := hin.ssrc
    obtain ⟨H, hH⟩ : ∃ H : Nat, x.height = (H : Int) := ⟨x.height.toNat, by omega⟩
    obtain ⟨s, hs'⟩ : ∃ s : Nat, x.ssrc = s := ⟨_, rfl⟩
    have hlay : layB x = be s 4 ++ be H 2 ++ R := by simp [layB, hR, hH, hs']
    rw [hR] at k0 hR8
    rw [hs'] at k1 hsb
    rw [hH] at k2 hhb
    rw [hlay] at htk
    have hRl : R.length ≤ 8 := by simpa [ByteArray.size] using hR8
    clear hR hH hs' hlay hin hoq hR8 hLe h
    generalize fldB (layF (l.take q)) = L at hM htk hLen
    have HLL := Lib.hid hLen
    have HT := Lib.hid htk
    clear htk hLen
    have hs := hM.size
    have ws : (s : Int) % 18446744073709551616 = (s : Int) := by omega
    have wh : (H : Int) % 18446744073709551616 = (H : Int) := by omega
    have ys : IntKind.u64.wrap (s : Int) = (s : Int) := by simp [IntKind.wrap, IntKind.signed, IntKind.bits]; omega
    have yh : IntKind.u64.wrap (H : Int) = (H : Int) := by simp [IntKind.wrap, IntKind.signed, IntKind.bits]; omega
    have hg0 : b < wr.heap.size := by omega
    have hHb : H ≤ 8192 := by omega
    clear hhb
    go_upto_region 8 with (fail)
    have hMA := hM.on (below_alloc wr (.cells #[.string ⟨R.toArray⟩, .int .u32 (s : Int), .int .i64 (H : Int)] 46))
    have hBk := Blk.new wr 46 #[.string ⟨R.toArray⟩, .int .u32 (s : Int), .int .i64 (H : Int)]
    have hfar := fun (g' : Nat) (h' : wr.heap.size ≤ g') => hM.far h'
    have hsw := hM.size
    clear hM hs hg0 hbl k0 k1 k2 HOK
    generalize wr.alloc (.cells #[.string ⟨R.toArray⟩, .int .u32 (s : Int), .int .i64 (H : Int)] 46) = W7 at hMA hBk ⊢
    obtain ⟨g, hg⟩ : ∃ g, g = wr.heap.size := ⟨_, rfl⟩
    rw [← hg] at hBk hfar hsw ⊢
    have HG := Lib.hid hg
    clear hg
    have hlt7 := hBk.lt
    obtain ⟨⟨c0, c1, c2⟩, _⟩ := blk3 hBk
    refine wp_region_tbl [.val (.pointer (some ⟨g, 1, none⟩)), .val (.int .u32 (s : Int)), .val (.int .u64 (s : Int)), .bytes (([] ++ be s 4)), .val (.pointer (some ⟨g, 2, none⟩)), .val (.int .i64 (H : Int)), .val (.int .u64 (H : Int)), ownB g (put6 s H), ownB g (put6 s H)] (by kernel_rfl) (by kernel_rfl) (by kernel_rfl) (AllObl.all ⟨?_, ?_, ?_, ?_, ?_, ?_, ?_, ?_, ?_, trivial⟩) ?_
    · exact Obl.pure trivial (.pointer (some ⟨g, 1, none⟩)) (by kernel_rfl) (fun ev w hb hx => by
        have e6 : ev (.tmp 6) = .pointer (some ⟨g, 0, none⟩) := holds_val (hx (.tmp 6)) (by kernel_rfl)
        simp [execOp, e6, go_sem])
    · exact Obl.pure trivial (.int .u32 (s : Int)) (by kernel_rfl) (fun ev w hb hx => by
        have e26 : ev (.tmp 26) = .pointer (some ⟨g, 1, none⟩) := holds_val (hx (.tmp 26)) (by kernel_rfl)
        (have m1 := (((drew_below _).trans hb).cell (p := ⟨g, 1, none⟩) hlt7).trans c1; simp [execOp, e26, go_sem, m1]))
    · exact Obl.pure trivial (.int .u64 (s : Int)) (by kernel_rfl) (fun ev w hb hx => by
        have e27 : ev (.tmp 27) = .int .u32 (s : Int) := holds_val (hx (.tmp 27)) (by kernel_rfl)
        simp [execOp, e27, go_sem, ws, ys])
    · exact Obl.call trivial 49 #[.const (.slice none 0 0), .tmp 28, .const (.int .i64 4)] _ rfl Try.f49 Try.func49 (by kernel_rfl) (by kernel_rfl) (fun ev w hb hx => by
        have e28 : ev (.tmp 28) = .int .u64 (s : Int) := holds_val (hx (.tmp 28)) (by kernel_rfl)
        have k0 : ev (.const (.slice none 0 0)) = (.slice none 0 0) := holds_val (hx (.const (.slice none 0 0))) (by kernel_rfl)
        have k1 : ev (.const (.int .i64 4)) = (.int .i64 4) := holds_val (hx (.const (.int .i64 4))) (by kernel_rfl)
        simp only [List.map_toArray, List.map_cons, List.map_nil, e28, k0, k1]
        exact ((ref_put_yes none 0 0 [] w (R8.nil _ _ _ _) (by omega) s 4 (by omega) (by omega) (by omega))).mono fun _ _ hh => Out8.holds (by kernel_rfl) hh)
    · exact Obl.pure trivial (.pointer (some ⟨g, 2, none⟩)) (by kernel_rfl) (fun ev w hb hx => by
        have e6 : ev (.tmp 6) = .pointer (some ⟨g, 0, none⟩) := holds_val (hx (.tmp 6)) (by kernel_rfl)
        simp [execOp, e6, go_sem])
    · exact Obl.pure trivial (.int .i64 (H : Int)) (by kernel_rfl) (fun ev w hb hx => by
        have e30 : ev (.tmp 30) = .pointer (some ⟨g, 2, none⟩) := holds_val (hx (.tmp 30)) (by kernel_rfl)
        (have m2 := (((drew_below _).trans hb).cell (p := ⟨g, 2, none⟩) hlt7).trans c2; simp [execOp, e30, go_sem, m2]))
    · exact Obl.pure trivial (.int .u64 (H : Int)) (by kernel_rfl) (fun ev w hb hx => by
        have e31 : ev (.tmp 31) = .int .i64 (H : Int) := holds_val (hx (.tmp 31)) (by kernel_rfl)
        simp [execOp, e31, go_sem, wh, yh])
    · exact Obl.call trivial 49 #[.tmp 29, .tmp 32, .const (.int .i64 2)] _ rfl Try.f49 Try.func49 (by kernel_rfl) (by kernel_rfl) (fun ev w hb hx => by
        obtain ⟨A29, n29, c29, e29, r29⟩ := holds_bytes (hx (.tmp 29)) (l := ([] ++ be s 4)) (by kernel_rfl)
        have e32 : ev (.tmp 32) = .int .u64 (H : Int) := holds_val (hx (.tmp 32)) (by kernel_rfl)
        have k0 : ev (.const (.int .i64 2)) = (.int .i64 2) := holds_val (hx (.const (.int .i64 2))) (by kernel_rfl)
        simp only [List.map_toArray, List.map_cons, List.map_nil, e29, e32, k0]
        exact (((ref_put_own A29 n29 c29 _ w r29 (by have := r29.1; simp [be_len] at this; omega) H 2 (by omega) (by omega) (by omega)).mono fun e w' h => (⟨Nat.le_trans (Nat.le_of_lt hlt7) ((drew_below _).trans hb).size, h⟩ : g ≤ w.heap.size ∧ OwnOut w (put6 s H) e w'))).mono fun _ _ hh => ownB_ret (by kernel_rfl) hh)
    · exact Obl.move trivial _ (Or.inr rfl) (by kernel_rfl)
    intro a WR hb hsz hdf hold hv
    have ha := act_puts [26, 27, 28, 29, 30, 31, 32, 33, 7] (by kernel_rfl) hsz hdf hold
    simp only [putAll] at ha
    obtain ⟨y33, z7, o33⟩ := ownB_of (B := g) (l := put6 s H) (hv 8 7 (by kernel_rfl)) (by kernel_rfl)
    rw [z7] at ha
    generalize a.tmps.getD 26 undef = x26 at ha
    generalize a.tmps.getD 27 undef = x27 at ha
    generalize a.tmps.getD 28 undef = x28 at ha
    generalize a.tmps.getD 29 undef = x29 at ha
    generalize a.tmps.getD 30 undef = x30 at ha
    generalize a.tmps.getD 31 undef = x31 at ha
    generalize a.tmps.getD 32 undef = x32 at ha
    generalize a.tmps.getD 33 undef = x33 at ha
    clear hv hold hsz hdf z7
    subst ha
    simp only [Act.put, List.setIfInBounds_toArray, List.set_cons_succ, List.set_cons_zero]
    have hbb := (drew_below W7).trans hb
    have hM := hMA.on hbb
    obtain ⟨⟨d0, d1, d2⟩, _⟩ := blk3 (hBk.below hbb hlt7)
    have hs := hM.size
    have hlt8 := Nat.lt_of_lt_of_le hlt7 hbb.size
    clear hMA hBk hb hbb c0 c1 c2 hlt7
    have HX := Lib.hid (show (put6 s H).length + R.length ≤ 1000000 by rw [put6_len]; omega)
    have HG8 := Lib.hid (Nat.le_of_lt hlt8)
    have HS := Lib.hid hsw
    go_wp2_with (at_builtin; ((with_reducible refine wpList_appendS8 rfl (.tmp 35) (.tmp 37) rfl g _ _ (by with_unfolding_all rfl) o33 R (by with_unfolding_all rfl) HX.out HG8.out ?_); rintro v8 w8 ⟨o8, g8⟩))
    have hb8 : Below g WR w8 := (Below.refl g WR).grown g8 HG8.out (fun k hk => by have := (World.ownsRow.lt o33 k hk).1; omega)
    have hg8s := g8.size
    have hM := hM.to (own_grown8 hM.own g8 (fun k hk e' => by
      have h1 := (World.ownsRow.lt o33 k e').1
      exact hfar k h1 hk)) (hb8.mono (by
        have := HG.out
        have := HS.out
        omega))
    obtain ⟨A8, c8, hv8, r8, f8⟩ := o8.r8n
    subst hv8
    have far8 := fun (ad : Addr) (h' : A8 = some ad) => hfar ad.block (f8 ad h').1
    have hl8 : (put6 s H ++ R).length ≤ 255 := by rw [List.length_append, put6_len]; omega
    refine (ref8_field w8 hM.own hM.size 2 2 rfl A8 _ c8 (put6 s H ++ R) r8 hl8 (by have := HLL.out; omega) far8).mono ?_
    rintro e w9 ⟨v9, rfl, o9, b9⟩
    have hM := hM.to o9 b9
    clear r8 f8 far8 o8 o9 b9 hb8 g8 o33 d0 d1 d2 hs hfar hg8s hlt8
    go_wp2_with fail
    go_roundw
    case rel =>
      refine ⟨q + 1, by omega, by go_num, ?_⟩
      rw [HT.out]
      exact hM
    case measure => simp [intOf]; omega
  · have g3 : ¬ (q : Int) < (n : Int) := by omega
    have hqn : q = n := by omega
    subst hqn
    rw [List.take_of_length_le (by rw [HLN.out]; exact Nat.le_refl _)] at hM
    have hLn := layF_len HOK.out
    rw [HLN.out] at hLn
    obtain ⟨L, hL⟩ : ∃ L, L = fldB (layF l) := ⟨_, rfl⟩
    rw [← hL] at hM hLn
    have HQ := Lib.hid hL
    clear hL h
    obtain ⟨Ab, cb, hv, rb, fb⟩ := hM.own.r8n
    subst hv
    obtain ⟨m, hm⟩ : ∃ m, m = L.length := ⟨_, rfl⟩
    rw [← hm] at rb hLn hM
    rw [← hm]
    have HN := Lib.hid hm
    clear hm fb
    have kc := blk8 hM.blk
    have hs := hM.size
    have wm : (m : Int) % 18446744073709551616 = (m : Int) := by omega
    have ym : IntKind.u64.wrap (m : Int) = (m : Int) := by simp [IntKind.wrap, IntKind.signed, IntKind.bits]; omega
    go_wp2_with fail
    refine (ref8_in_p _ _ (hasS_size _)).mono ?_
    rintro e w' ⟨rfl, rfl⟩
    go_wp2_with fail
    refine (ref8_in_h _ _ (hasS_size _)).mono ?_
    rintro e w' ⟨rfl, rfl⟩
    go_wp2_with fail
    refine (ref8_in_k _ _ (hasS_size _)).mono ?_
    rintro e w' ⟨rfl, rfl⟩
    go_wp2_with fail
    refine (ref8_in_y _ _ (hasS_size _)).mono ?_
    rintro e w' ⟨rfl, rfl⟩
    go_wp2_with fail
    refine (ref8_in_e _ _ (hasS_size _)).mono ?_
    rintro e w' ⟨rfl, rfl⟩
    go_wp2_with fail
    refine (ref_put_own (some ⟨wr.heap.size, 0, none⟩) 1 1 [3] _ (lit_r8 [3] _ 1 (0, 0) rfl (by rfl) wr) (by omega) m 2 (by omega) (by omega) (by omega)).mono ?_
    rintro e X ⟨vp, rfl, op, bp⟩
    have hbp := (below_alloc wr (.cells #[.int .u8 3] 5)).trans (bp.mono (le_alloc (Nat.le_refl _) _))
    have op := op.mono8 (b' := w.heap.size) (Nat.le_trans (Nat.le_of_succ_le hs) (le_alloc (Nat.le_refl _) _))
    have rb := rb.on hbp
    have bX := hM.below.trans (hbp.mono (Nat.le_of_succ_le hs))
    have hX := Lib.hid bX.size
    have HLn := Lib.hid (show ([3] ++ be m 2 : List UInt8).length + m ≤ 140737488355328 by simp [be_len]; omega)
    clear kc hs bp hbp hM
    go_wp2_with (at_builtin; ((with_reducible refine wpList_append8 rfl (.tmp 88) (.tmp 89) rfl rfl w.heap.size _ _ (by with_unfolding_all rfl) op _ _ m cb L (by with_unfolding_all rfl) rb HLn.out hX.out ?_); intro v9 w9 ha9))
    have b9 := ha9.below bX hX.out op (Nat.le_refl _)
    go_ret
    refine ⟨v9, rfl, ?_, b9⟩
    have e9 : bytesK 3 L = [3] ++ be m 2 ++ L := by
      unfold bytesK
      rw [← HN.out]
      rfl
    rw [← HQ.out, e9]
    exact ha9.1
end Go.Proofs.Ytgjncaobcgjefaa.RP
