/- CtlReads' walk. -/
import Derived.Test.YtgjncaobcgjefaaNk
import Derived.Test.YtgjncaobcgjefaaCtB8
namespace Go.Proofs.Ytgjncaobcgjefaa.RP
open Go.RowKit
set_option linter.unusedVariables false
set_option linter.unusedSimpArgs false
set_option maxRecDepth 20000

theorem own8_setAt8 {w : World} {base g c i n : Nat} {l : List UInt8} (h : Own8 w base (.slice (some ⟨g, 0, none⟩) n c) l) (hi : i < l.length) (x : UInt8) : Own8 (w.setCell ⟨g, i, none⟩ (.int .u8 (x.toNat : Int))) base (.slice (some ⟨g, 0, none⟩) n c) (l.set i x) := by
  rcases h.2 with ⟨hv, _⟩ | ⟨g', cap, cur, hv, hb, hg, hnc, hm, hs, ht⟩
  · cases hv
  · injection hv with h1 h2 h3
    injection h1 with h1
    injection h1 with h1 _ _
    subst h1 h2 h3
    refine ⟨by simp, .inr ⟨g, c, _, by simp, hb, Blk.set_ (w := w) (g := g) hg i (.int .u8 (x.toNat : Int)), by simpa using hnc, hm, by simpa using hs, ?_⟩⟩
    rw [Nat.mul_one] at ht ⊢
    rw [List.length_set, Array.toList_setIfInBounds, List.take_set, ht, List.map_set]
    rfl
theorem own8_some8 {w : World} {base : Nat} {v : Value} {l : List UInt8} (h : Own8 w base v l) (hl : 0 < l.length) : ∃ g c, v = .slice (some ⟨g, 0, none⟩) l.length c ∧ base ≤ g ∧ g < w.heap.size ∧ (∀ i, w.frozen? ⟨g, i, none⟩ = false) ∧ ∀ i, i < l.length → w.cell? ⟨g, i, none⟩ = some (.int .u8 ((l.getD i 0).toNat : Int)) := by
  obtain ⟨A, c, hv, hr⟩ := h.r8
  rcases h.2 with ⟨hv', hn⟩ | ⟨g, cap, cur, hv', hb, hg, hnc, hm, hs, ht⟩
  · omega
  · rw [hv'] at hv
    injection hv with h1 h2 h3
    refine ⟨g, cap, hv', hb, (Array.getElem?_eq_some_iff.1 hg).1, fun i => by simp [World.frozen?, hg], fun i hi => ?_⟩
    obtain ⟨b, off, e, _, hc⟩ := hr.2.2 hl
    rw [← h1] at e
    injection e with e
    injection e with e1 e2 _
    subst e1 e2
    have := hc i hi
    rwa [Nat.zero_add] at this
theorem xor88 (a b : Int) : ∃ y : UInt8, bits BinOp.xor .u8 a b = (y.toNat : Int) := by
  have h0 := bits_lo_u8 BinOp.xor a b
  have h1 := bits_hi_u8 BinOp.xor a b
  exact ⟨UInt8.ofNat (bits BinOp.xor .u8 a b).toNat, by rw [UInt8.toNat_ofNat']; omega⟩
set_option maxHeartbeats 8000000 in
theorem ctlReads_walk (A : Option Addr) (n c : Nat) (Ab : Option Addr) (nb cb : Nat) (lb : List UInt8) (at' turn : Int) (w : World) (h : RI w w.heap.size A n c) (hn : n ≤ 281474976710656) (hb : R8 w w.heap.size Ab nb cb lb) (hnb : nb ≤ 140737488351232) (hat : I64 at') (hturn : (Lit.int .u8 turn).wf = true) :
    Calls Try.prog 6 #[.slice A n c, .slice Ab nb cb, .int .i64 at', .int .u8 turn] w (Yes w) := by
  have hT := tape_at8 h hn
  have b0 : Below w.heap.size w (w.alloc (.cells #[.slice A n c, .int .i64 0] 28)) := below_alloc w _
  clear h
  go_enter Try.func6, Try.ntmps6
  go_wp2_with fail
  refine (tape_ctl _ _ hT).mono ?_
  rintro e w1 ⟨x, Ax, cx, rfl, okx, hX, hx3, hm, hxa⟩
  have b1 := b0.trans hm.below
  clear hT b0 hm hxa
  have hsx := ctl_small okx
  have hRB := ref8_bytes_ok x okx Ax cx w1 hX.layers
  generalize x.bytes = BX at hRB hsx
  clear hX hx3 okx
  obtain ⟨vx, hvx⟩ : ∃ v, v = x.val Ax cx := ⟨_, rfl⟩
  rw [← hvx] at hRB ⊢
  clear hvx
  go_wp2_with fail
  refine hRB.mono ?_
  rintro e W2 ⟨v2, rfl, o2, b2⟩
  clear hRB
  obtain ⟨g, c2, rfl, hg, hgl, hfz, hcl⟩ := own8_some8 o2 (by omega)
  obtain ⟨nX, hnX⟩ : ∃ q, q = BX.length := ⟨_, rfl⟩
  rw [← hnX] at hsx o2 hcl ⊢
  have HNX := Lib.hid hnX
  clear hnX
  have b3 := b1.trans (b2.mono b1.size)
  have yn : IntKind.i64.wrap ((nX : Int) - 1) = (nX : Int) - 1 := by rw [IntKind.wrap_i64]; omega
  obtain ⟨r, hr0, hr1, _, hW⟩ := within_ex at' 0 ((nX : Int) - 1) hat (by omega) (by omega) (by omega)
  obtain ⟨q, rfl⟩ : ∃ q : Nat, r = (q : Int) := ⟨r.toNat, by omega⟩
  have hW2 := hW W2
  have hqn : q < nX := by omega
  have hqi : (q : Int) < (nX : Int) := by omega
  have kq := hcl q hqn
  have fq := hfz q
  obtain ⟨yy, hy⟩ := xor88 ((BX.getD q 0).toNat : Int) turn
  obtain ⟨u0, hu0⟩ : ∃ u, u = ((BX.getD q 0).toNat : Int) := ⟨_, rfl⟩
  rw [← hu0] at kq hy
  have o3 := own8_setAt8 (i := q) o2 (by rw [← HNX.out]; exact hqn) yy
  obtain ⟨LX, hLX⟩ : ∃ L, L = BX.set q yy := ⟨_, rfl⟩
  rw [← hLX] at o3
  have hlx : LX.length = nX := by rw [hLX, List.length_set, HNX.out]
  have b4 : Below w.heap.size w (W2.setCell ⟨g, q, none⟩ (.int .u8 (yy.toNat : Int))) := b3.setCell (p := ⟨g, q, none⟩) (by have := b1.size; simp only; omega) _
  have hr3 := o3.r8
  clear hW hcl hfz hr0 hr1 hu0 hLX o3 b2
  go_wp2_with fail
  refine hW2.mono ?_
  rintro e' w' ⟨rfl, rfl⟩
  clear hW2
  go_upto_region 3 with (fail)
  generalize w'.setCell ⟨g, q, none⟩ (.int .u8 (yy.toNat : Int)) = V at b4 hr3 ⊢
  obtain ⟨A3, c3, e3, r3⟩ := hr3
  rw [hlx] at e3 r3
  injection e3 with e31 e32 e33
  subst e31 e33
  have rb := hb.on b4
  have bv := below_alloc V (.cells #[.slice (some ⟨g, 0, none⟩) nX c2, .slice Ab nb cb] 30)
  have hB := Blk.new V 30 #[.slice (some ⟨g, 0, none⟩) nX c2, .slice Ab nb cb]
  have r3 := r3.on bv
  have rb := rb.on bv
  have b5 := b4.trans (bv.mono b4.size)
  clear bv b4 b3 b1 hb kq fq hy hqn hqi hlx e32 o2 yn hgl hg
  go_wp2_with fail
  generalize V.alloc (.cells #[.slice (some ⟨g, 0, none⟩) nX c2, .slice Ab nb cb] 30) = V2 at hB r3 rb b5 ⊢
  obtain ⟨g4, hg4⟩ : ∃ x, x = V.heap.size := ⟨_, rfl⟩
  rw [← hg4] at hB ⊢
  clear hg4
  have hBl := hB.lt
  have HR2 : Hid (∀ i : Nat, i < 2 → ∃ (Ay : Option Addr) (ny cy : Nat) (ly : List UInt8), V2.cell? ⟨g4, i, none⟩ = some (.slice Ay ny cy) ∧ R8 V2 V2.heap.size Ay ny cy ly ∧ ny ≤ 140737488355328) := Lib.hid fun i hi => by
    rcases (show i = 0 ∨ i = 1 by omega) with rfl | rfl
    · exact ⟨_, _, _, _, hB.cell 0, r3, by omega⟩
    · exact ⟨_, _, _, _, hB.cell 1, rb, by omega⟩
  clear r3 rb hB
  go_loopw [12, 13, 14, 15, 16, 40] (fun _ _ _ _ _ i wr => ∃ j : Nat, j ≤ 2 ∧ i = .int .i64 (j : Int) ∧ Below V2.heap.size V2 wr) (fun _ _ _ _ _ i _ => 2 - (intOf i).toNat)
  case atStart => exact ⟨0, by omega, rfl, Below.refl _ _⟩
  obtain ⟨j, hj, rfl, hbr⟩ := hrel
  have hbe := b5.trans (hbr.mono b5.size)
  by_cases hlt : j < 2
  case neg =>
    have g3 : ¬ (j : Int) < 2 := by omega
    clear HR2 hbr
    go_wp2_with fail
    refine (known8 _).mono ?_
    rintro e' WC ⟨rfl, bC⟩
    have bEnd := hbe.trans (bC.mono hbe.size)
    clear bC hbe
    go_wp2_with fail
    go_ret
    exact ⟨rfl, bEnd⟩
  have g3 : decide ((j : Int) < 2) = true := by simp; omega
  have g4' : (j : Int) < 2 := by omega
  obtain ⟨Ay, ny, cy, ly, hc, hry, hny⟩ := HR2.out j hlt
  have hc := (hbr.cell (p := ⟨g4, j, none⟩) hBl).trans hc
  have hry := hry.on hbr
  have HD := Lib.hid (rd_or ly)
  have hRd := read_any Ay ny cy ly wr hry hny
  rcases HD.out with hd | hd
  case' inr =>
    have hz : ∃ er : Int, er ≠ 0 ∧ rdM ly = (zC, er) := by
      rcases hd with hd | hd
      · exact ⟨13, by decide, Prod.ext hd.2 hd.1⟩
      · exact ⟨12, by decide, Prod.ext hd.2 hd.1⟩
    obtain ⟨er, her, hre⟩ := hz
    have hRe := read_e hre Ay ny cy wr hry hny
    have t0 : (er == 0) = false := by simpa using her
    clear hRd HD hd hre her HR2
    go_wp2_with fail
    refine hRe.mono ?_
    rintro e' W5 ⟨A5, c5, rfl, bb5⟩
    have bv5 := below_alloc W5 (.cells #[.int .i64 0, .int .i64 0, .slice A5 0 c5, .int .i64 0, .int .i64 0, .int .i64 0, .int .i64 0, .int .i64 0] 25)
    have bb6 := bb5.trans (bv5.mono bb5.size)
    have hbr2 := hbr.trans (bb6.mono hbr.size)
    clear hRe bb5 bv5 bb6 hc
    go_wp2_with fail
    go_roundw
    case rel => exact ⟨j + 1, by omega, by go_num, hbr2⟩
    case measure => simp [intOf]; omega
  obtain ⟨he0, hxe, hbe2⟩ := hd
  obtain ⟨DD, hDD⟩ : ∃ D, D = rdM ly := ⟨_, rfl⟩
  rw [← hDD] at he0 hxe hbe2 hRd
  obtain ⟨DX, DE⟩ := DD
  simp only at he0 hxe hbe2
  subst he0
  clear hDD HD
  unfold ReadOut at hRd
  go_wp2_with fail
  refine hRd.mono ?_
  rintro e' W5 ⟨A5, c5, rfl, hIC, hlen, bb5⟩
  simp only at hIC hlen ⊢
  have okD := (Ctl.ok_iff DX).1 hxe
  have hIL := hIC.layers
  have HB8 := Lib.hid fun (W : World) (hb : Below W5.heap.size W5 W) => bytes_yes DX okD A5 c5 W (hIL.on hb)
  have HRI := Lib.hid fun (W : World) (hb : Below W5.heap.size W5 W) => right_ctl DX A5 c5 W (hIL.on hb) (by omega)
  rw [hxe] at HRI
  rw [hbe2] at HB8
  have hr5 := hry.on bb5
  have hbr5 := hbr.trans (bb5.mono hbr.size)
  clear hRd hIC hlen hxe hbe2 okD hIL hry bb5 hbr
  obtain ⟨dk, dp, dl, de, dh, ds, dy, dd⟩ := DX
  simp only [Ctl.val] at HB8 HRI ⊢
  generalize dl.length = dm at HB8 HRI ⊢
  have bv5 := below_alloc W5 (.cells #[.int .i64 dk, .int .i64 dp, .slice A5 dm c5, .int .i64 de, .int .i64 dh, .int .i64 ds, .int .i64 dy, .int .i64 dd] 25)
  have hQ := Blk.new W5 25 #[.int .i64 dk, .int .i64 dp, .slice A5 dm c5, .int .i64 de, .int .i64 dh, .int .i64 ds, .int .i64 dy, .int .i64 dd]
  have hr6 := hr5.on bv5
  have hbr6 := hbr5.trans (bv5.mono hbr5.size)
  have h8 := HB8.out _ bv5
  clear hr5 hbr5
  go_wp2_with fail
  generalize W5.alloc (.cells #[.int .i64 dk, .int .i64 dp, .slice A5 dm c5, .int .i64 de, .int .i64 dh, .int .i64 ds, .int .i64 dy, .int .i64 dd] 25) = W6 at bv5 hQ hr6 hbr6 h8 ⊢
  have hQl := hQ.lt
  refine h8.mono ?_
  rintro e' W7 ⟨v7, rfl, o7, bb7⟩
  obtain ⟨A7, c7, rfl, r7, f7⟩ := o7.r8n
  have hr7 := hr6.on bb7
  have hQ7 := hQ.below bb7 hQl
  have hbr7 := hbr6.trans (bb7.mono hbr6.size)
  have bv7 := bv5.trans (bb7.mono bv5.size)
  have hl7 := hr7.1
  rw [hl7] at r7 ⊢
  have s1 := r7.string 30 5 9 (P := Try.prog) Try.underlying30 Try.underlying5 Try.underlying9
  have s2 := hr7.string 30 5 9 (P := Try.prog) Try.underlying30 Try.underlying5 Try.underlying9
  obtain ⟨q0, q1, q2, q3, q4, q5, q6, q7⟩ := blk8c hQ7
  have hR7 := HRI.out W7 bv7
  clear f7 o7 bb7 hr6 hr7 hbr6 h8 HB8 HRI bv5 bv7 hQ hc r7 hl7
  go_wp2_with fail
  refine hR7.mono ?_
  rintro e' W8 ⟨rfl, bb8⟩
  have hbr8 := hbr7.trans (bb8.mono hbr7.size)
  clear bb8 hR7 s1 s2 q0 q1 q2 q3 q4 q5 q6 q7 hbr7 hbe
  go_wp2_with fail
  go_roundw
  case rel => exact ⟨j + 1, by omega, by go_num, hbr8⟩
  case measure => simp [intOf]; omega
end Go.Proofs.Ytgjncaobcgjefaa.RP
