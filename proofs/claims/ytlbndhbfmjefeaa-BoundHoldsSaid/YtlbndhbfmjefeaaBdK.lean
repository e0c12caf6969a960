/- Law 13's helpers: tuples, row. -/
import Derived.Test.YtlbndhbfmjefeaaBdI
import Derived.Test.YtlbndhbfmjefeaaRcI
namespace Go.Proofs.Ytlbndhbfmjefeaa
open Go.RowKit
set_option linter.unusedVariables false
set_option linter.unusedSimpArgs false
set_option maxRecDepth 20000

theorem neq_tup (x : Tup) (W : World) : (binOp .neq 30 x.val x.val).run Try.prog W = .ok (.bool false) W := by
  have hS : Try.prog.underlying 30 = some (.struct (Try.prog.fieldsOf 30)) := by kernel_rfl
  have hp : Try.prog.stoodInHeld 30 = false := by kernel_rfl
  have u0 := Try.underlying28
  have u1 := Try.underlying26
  have u2 := Try.underlying3
  have a0 := Try.isAgg28
  have a1 := Try.isAgg26
  have a2 := Try.isAgg3
  have z0 := Try.sizeOf28
  have z1 := Try.sizeOf26
  have z2 := Try.sizeOf3
  rw [run_neq_struct, show (10000 : Nat) = 9999 + 1 from rfl, run_equalIn_agg W 9999 _ _ _ hS hp]
  simp only [Program.fieldsOf, Try.underlying30]
  go_simp
set_option maxHeartbeats 2000000 in
theorem tuples_yes {A A' : Option Addr} {n n' c c' : Nat} {l : List Tup} {w : World} (h : RT w w.heap.size A n c l) (h' : RT w w.heap.size A' n' c' l) (hn : n ≤ 1000000) :
    Calls Try.prog 14 #[.slice A n c, .slice A' n' c'] w (Yes w) := by
  have hnn : n = n' := h.1.symm.trans h'.1
  subst hnn
  have HR := Lib.hid h
  have HS := Lib.hid h'
  have hl := Lib.hid h.1
  clear h h'
  go_enter Try.func14, Try.ntmps14
  go_wp2_with fail
  go_loopw [5, 13] (fun _ i wr => ∃ q : Nat, q ≤ n ∧ i = .int .i64 (q : Int) ∧ Below w.heap.size w wr) (fun _ i _ => n - (intOf i).toNat)
  case atStart => exact ⟨0, by omega, rfl, Below.refl _ _⟩
  case round =>
    obtain ⟨q, hq, rfl, b0⟩ := hrel
    by_cases hlt : q < n
    · have g1 : decide ((q : Int) < (n : Int)) = true := by simp; omega
      have g3 : (q : Int) < (n : Int) := by omega
      have hql : q < l.length := by rw [hl.out]; exact hlt
      obtain ⟨b, off, rfl, hb, c0, c1, c2⟩ := (HR.out.on b0).at (q := q) hql
      obtain ⟨b', off', rfl, hb', d0, d1, d2⟩ := (HS.out.on b0).at (q := q) hql
      have hne := fun W => neq_tup l[q] W
      generalize l[q] = x at c0 c1 c2 d0 d1 d2 hne
      clear hb hb' hql
      go_upto_region 6 with (fail)
      go_quiet (fail)
      go_wp2_with fail
      go_roundw
      case rel => exact ⟨q + 1, by omega, by go_num, b0.trans ((belowDrewN wr _).mono b0.size)⟩
      case measure => simp [intOf]; omega
    · have g1 : decide ((q : Int) < (n : Int)) = false := by simp; omega
      go_wp2_with fail
      go_ret
      exact ⟨rfl, b0⟩
theorem tape_at {w : World} {A : Option Addr} {n c : Nat} (h : RI w w.heap.size A n c) (hn : n ≤ 281474976710656) : TapeAt (w.alloc (.cells #[.slice A n c, .int .i64 0] 41)) w.heap.size :=
  ⟨A, n, c, 0, Blk.new _ _ _, Nat.zero_le _, hn, h.keep ((Below.refl _ w).alloc (Nat.le_refl _) _)⟩
theorem RI.on {w w' : World} {A : Option Addr} {n c : Nat} (h : RI w w.heap.size A n c) (hb : Below w.heap.size w w') : RI w' w'.heap.size A n c :=
  ⟨h.1, fun hn => by
    obtain ⟨b, off, e, hlt, hc⟩ := (h.keep hb).2 hn
    exact ⟨b, off, e, Nat.lt_of_lt_of_le hlt hb.size, hc⟩⟩
/-- A tuple of a tape: its bounds. -/
def Tup.small (t : Tup) : Prop := t.owner ≤ 9 ∧ t.rate ≤ 16008000 ∧ 0 ≤ t.over ∧ t.over ≤ 120
theorem Tup.small.in_ {t : Tup} (h : t.small) : t.In := by
  obtain ⟨h1, h2, h3, h4⟩ := h
  exact ⟨by omega, by omega, by unfold I64; omega⟩
/-- A row made of a tape. -/
def RowT (k : Nat) (w : World) (e : Ending) (w' : World) : Prop := ∃ v M, e = .returned v ∧ OwnTp w' w.heap.size v M ∧ M.length = k ∧ (∀ t ∈ M, t.small) ∧ Below w.heap.size w w'
set_option maxHeartbeats 2000000 in
theorem row_any {A : Option Addr} {n c : Nat} {w : World} (h : RI w w.heap.size A n c) (hn : n ≤ 281474976710656) (k : Nat) (hk : k ≤ 100) :
    Calls Try.prog 8 #[.slice A n c, .int .i64 (k : Int)] w (RowT k w) := by
  have hT := Lib.hid (tape_at h hn)
  have hb0 := Lib.hid (belowA w (.cells #[.slice A n c, .int .i64 0] 41))
  have hz : (w.alloc (.cells #[.slice A n c, .int .i64 0] 41)).heap.size = w.heap.size + 1 := by simp
  clear h hn
  go_enter Try.func8, Try.ntmps8
  go_wp2_with fail
  generalize w.alloc (.cells #[.slice A n c, .int .i64 0] 41) = w0 at hT hb0 hz ⊢
  have HZ := Lib.hid hz
  clear hz
  obtain ⟨g, hg⟩ : ∃ g, g = w.heap.size := ⟨_, rfl⟩
  rw [← hg] at hT ⊢
  have HG := Lib.hid hg
  clear hg
  go_loopw [6, 7] (fun v i wr => ∃ q : Nat, q ≤ k ∧ i = .int .i64 (q : Int) ∧ Hid (∃ M, OwnTp wr w0.heap.size v M ∧ M.length = q ∧ (∀ t ∈ M, t.small) ∧ Moves g w0 wr)) (fun _ i _ => k - (intOf i).toNat)
  case atStart => exact ⟨0, by omega, rfl, Lib.hid ⟨[], OwnTp.nil _ _, rfl, (fun t ht => by cases ht), Moves.of hT.out (Below.refl _ _)⟩⟩
  case round =>
    obtain ⟨q, hq, rfl, hrel⟩ := hrel
    by_cases hlt : q < k
    · have g1 : decide ((q : Int) < (k : Int)) = true := by simp; omega
      have g3 : (q : Int) < (k : Int) := by omega
      obtain ⟨M, ow, hM, hs, hm⟩ := hrel.out
      obtain ⟨A0, c0, hv, _, _⟩ := ow.rt (fun x hx => (hs x hx).in_)
      rw [hM] at hv
      subst hv
      have tt := tape_tuple2 g wr hm.tape
      have HK := Lib.hid (⟨ow, hM, hs, hm⟩ : _ ∧ _ ∧ _ ∧ _)
      clear ow hM hs hm hrel
      go_upto_region 6 with (fail)
      go_wp2_with fail
      ((with_reducible refine tt.mono ?_); rintro e w1 ⟨t, rfl, hin, _, hsm, hm1⟩)
      obtain ⟨ow, hM, hs, hm⟩ := HK.out
      have hgw : g < w0.heap.size := by rw [HG.out, HZ.out]; omega
      have ow1 := own_moves ow hgw hm1
      have hm01 := hm.trans hm1
      have hw1 := hm01.below.size
      have hgw1 : g < w1.heap.size := Nat.lt_of_lt_of_le hgw hw1
      have bA := belowA w1 (.cells #[.int .u32 (t.owner : Int), .int .u64 (t.rate : Int), .int .i64 t.over] 30)
      have owA : OwnTp (w1.alloc (.cells #[.int .u32 (t.owner : Int), .int .u64 (t.rate : Int), .int .i64 t.over] 30)) w0.heap.size (.slice A0 q c0) M := own_kept ow1 bA
      have rA := one_rt w1 t hin
      have hmA := hm01.and hgw (bA.mono hw1)
      have hwA := hmA.below.size
      have HL := Lib.hid (show M.length + 1 ≤ 4398046511104 by omega)
      have HM := Lib.hid (⟨hM, hs, hsm, hmA⟩ : _ ∧ _ ∧ _ ∧ _)
      clear hM hs hsm hm01 hm ow ow1 hm1 bA hmA hw1 tt HK
      rw [show t.cells.toArray = #[.int .u32 (t.owner : Int), .int .u64 (t.rate : Int), .int .i64 t.over] from rfl]
      obtain ⟨tow, tr, tv⟩ := t
      go_wp2_with (at_builtin; go_loud ((with_reducible refine wpList_appendTp rfl (.tmp 16) (.tmp 19) rfl rfl w0.heap.size (.slice A0 q c0) M (by with_unfolding_all rfl) owA _ _ 1 1 [⟨tow, tr, tv⟩] (by with_unfolding_all rfl) rA HL.out hwA ?_); intro v9 w9 h9; have H9 := Lib.hid h9; clear h9))
      obtain ⟨hM, hs, hsm, hmA⟩ := HM.out
      have hm9 := hmA.and hgw (below_grown (Below.refl w0.heap.size _) hwA H9.out.2 (fun k hk => (World.ownsRow.lt owA k hk).1))
      clear owA rA hwA
      go_roundw
      case rel => exact ⟨q + 1, by omega, by go_num, Lib.hid ⟨M ++ [⟨tow, tr, tv⟩], H9.out.1, by rw [List.length_append, hM]; rfl, fun x hx => by
        rcases List.mem_append.1 hx with h | h
        · exact hs x h
        · rw [List.mem_singleton.1 h]; exact hsm, hm9⟩⟩
      case measure => simp [intOf]; omega
    · have g1 : decide ((q : Int) < (k : Int)) = false := by simp; omega
      have hqk : q = k := by omega
      clear hlt
      go_wp2_with fail
      go_ret
      obtain ⟨M, ow, hM, hs, hm⟩ := hrel.out
      have hgw : w.heap.size ≤ g := by rw [HG.out]; exact Nat.le_refl _
      exact ⟨_, M, rfl, ownTp_less ow (by rw [HZ.out]; omega), hM.trans hqk, hs, hb0.out.trans (hm.below.mono hgw)⟩
end Go.Proofs.Ytlbndhbfmjefeaa
