/- SeqNumbers' walk. -/
import Derived.Test.YtmkbbndfdgnakaaSqL
namespace Go.Proofs.Ytmkbbndfdgnakaa
open Go.RowKit
set_option linter.unusedVariables false
set_option linter.unusedSimpArgs false
set_option maxRecDepth 20000

/-- The first n cells of block g hold values that are P. -/
def LitK (n : Nat) (P : Value → Prop) (g : Nat) (W : World) : Prop := g < W.heap.size ∧ ∀ q, q < n → ∃ v, P v ∧ W.cell? ⟨g, q, none⟩ = some v
theorem LitK.on {n g : Nat} {P : Value → Prop} {W V : World} (h : LitK n P g W) (hb : Below W.heap.size W V) : LitK n P g V :=
  ⟨Nat.lt_of_lt_of_le h.1 hb.size, fun q hq => by
    obtain ⟨v, h1, h2⟩ := h.2 q hq
    exact ⟨v, h1, (hb.cell (p := ⟨g, q, none⟩) h.1).trans h2⟩⟩
theorem LitK.new (w : World) (t : TypeId) (vs : List Value) (P : Value → Prop) (h : ∀ v ∈ vs, P v) : LitK vs.length P w.heap.size (w.alloc (.cells vs.toArray t)) :=
  ⟨by simp, fun q hq => ⟨vs[q], h _ (List.getElem_mem hq), by
    rw [(Blk.new w t vs.toArray).cell q]
    simp [hq]⟩⟩
def isI (v : Value) : Prop := ∃ z : Int, v = .int .i64 z ∧ I64 z
def isH (v : Value) : Prop := ∃ k : Nat, v = .int .u16 (k : Int) ∧ k < 65536
def isW (v : Value) : Prop := ∃ k : Nat, v = .int .u32 (k : Int) ∧ k < 4294967296
def litI : List Value := [.int .i64 (-9223372036854775808), .int .i64 (-1), .int .i64 0, .int .i64 5, .int .i64 32767, .int .i64 32768, .int .i64 65535, .int .i64 65536, .int .i64 98304, .int .i64 2147483648, .int .i64 4294967295, .int .i64 4294967296, .int .i64 6442450944, .int .i64 281474976710656, .int .i64 9223372036854775807, .int .i64 9223372036854705808]
def litH : List Value := [.int .u16 0, .int .u16 1, .int .u16 32767, .int .u16 32768, .int .u16 32769, .int .u16 65535]
def litW : List Value := [.int .u32 0, .int .u32 1, .int .u32 2147483647, .int .u32 2147483648, .int .u32 2147483649, .int .u32 4294967295]
theorem litI_is : ∀ v ∈ litI, isI v := by
  intro v hv
  simp only [litI, List.mem_cons, List.not_mem_nil, or_false] at hv
  rcases hv with rfl | rfl | rfl | rfl | rfl | rfl | rfl | rfl | rfl | rfl | rfl | rfl | rfl | rfl | rfl | rfl <;> exact ⟨_, rfl, by unfold I64; omega⟩
theorem litH_is : ∀ v ∈ litH, isH v := by
  intro v hv
  simp only [litH, List.mem_cons, List.not_mem_nil, or_false] at hv
  rcases hv with rfl | rfl | rfl | rfl | rfl | rfl
  · exact ⟨0, rfl, by omega⟩
  · exact ⟨1, rfl, by omega⟩
  · exact ⟨32767, rfl, by omega⟩
  · exact ⟨32768, rfl, by omega⟩
  · exact ⟨32769, rfl, by omega⟩
  · exact ⟨65535, rfl, by omega⟩
theorem litW_is : ∀ v ∈ litW, isW v := by
  intro v hv
  simp only [litW, List.mem_cons, List.not_mem_nil, or_false] at hv
  rcases hv with rfl | rfl | rfl | rfl | rfl | rfl
  · exact ⟨0, rfl, by omega⟩
  · exact ⟨1, rfl, by omega⟩
  · exact ⟨2147483647, rfl, by omega⟩
  · exact ⟨2147483648, rfl, by omega⟩
  · exact ⟨2147483649, rfl, by omega⟩
  · exact ⟨4294967295, rfl, by omega⟩
theorem lit_rk {w : World} {g : Nat} {l : List Nat} {cs : Array Value} (h : Blk w g 23 cs) (hc : cs = (l.map v16).toArray) (hl : ∀ x ∈ l, x < 65536) : RK .u16 65536 w w.heap.size (some ⟨g, 0, none⟩) l.length l.length (fun i => l.getD i 0) := by
  subst hc
  refine ⟨Nat.le_refl _, fun i hi => ?_, fun hn => ⟨g, 0, rfl, h.lt, fun i hi => ?_⟩⟩
  · simp only [List.getD, List.getElem?_eq_getElem hi, Option.getD_some]
    exact hl _ (List.getElem_mem hi)
  · rw [Nat.zero_add, h.cell i]
    simp [List.getD, v16, hi]
theorem newI (w : World) : LitK 16 isI w.heap.size (w.alloc (.cells #[.int .i64 (-9223372036854775808), .int .i64 (-1), .int .i64 0, .int .i64 5, .int .i64 32767, .int .i64 32768, .int .i64 65535, .int .i64 65536, .int .i64 98304, .int .i64 2147483648, .int .i64 4294967295, .int .i64 4294967296, .int .i64 6442450944, .int .i64 281474976710656, .int .i64 9223372036854775807, .int .i64 9223372036854705808] 2)) ∧ Below w.heap.size w (w.alloc (.cells #[.int .i64 (-9223372036854775808), .int .i64 (-1), .int .i64 0, .int .i64 5, .int .i64 32767, .int .i64 32768, .int .i64 65535, .int .i64 65536, .int .i64 98304, .int .i64 2147483648, .int .i64 4294967295, .int .i64 4294967296, .int .i64 6442450944, .int .i64 281474976710656, .int .i64 9223372036854775807, .int .i64 9223372036854705808] 2)) := ⟨LitK.new w 2 litI isI litI_is, (Below.refl _ w).alloc (Nat.le_refl _) _⟩
theorem newH (w : World) : LitK 6 isH w.heap.size (w.alloc (.cells #[.int .u16 0, .int .u16 1, .int .u16 32767, .int .u16 32768, .int .u16 32769, .int .u16 65535] 23)) ∧ Below w.heap.size w (w.alloc (.cells #[.int .u16 0, .int .u16 1, .int .u16 32767, .int .u16 32768, .int .u16 32769, .int .u16 65535] 23)) := ⟨LitK.new w 23 litH isH litH_is, (Below.refl _ w).alloc (Nat.le_refl _) _⟩
theorem newW (w : World) : LitK 6 isW w.heap.size (w.alloc (.cells #[.int .u32 0, .int .u32 1, .int .u32 2147483647, .int .u32 2147483648, .int .u32 2147483649, .int .u32 4294967295] 25)) ∧ Below w.heap.size w (w.alloc (.cells #[.int .u32 0, .int .u32 1, .int .u32 2147483647, .int .u32 2147483648, .int .u32 2147483649, .int .u32 4294967295] 25)) := ⟨LitK.new w 25 litW isW litW_is, (Below.refl _ w).alloc (Nat.le_refl _) _⟩
theorem newS10 (w : World) (k : Nat) (hk : k < 60) : LitK 10 isI w.heap.size (w.alloc (.cells #[.int .i64 1, .int .i64 1, .int .i64 3, .int .i64 (-2), .int .i64 1, .int .i64 0, .int .i64 (k : Int), .int .i64 (-(k : Int)), .int .i64 64, .int .i64 (-63)] 3)) ∧ Below w.heap.size w (w.alloc (.cells #[.int .i64 1, .int .i64 1, .int .i64 3, .int .i64 (-2), .int .i64 1, .int .i64 0, .int .i64 (k : Int), .int .i64 (-(k : Int)), .int .i64 64, .int .i64 (-63)] 3)) := ⟨LitK.new w 3 [.int .i64 1, .int .i64 1, .int .i64 3, .int .i64 (-2), .int .i64 1, .int .i64 0, .int .i64 (k : Int), .int .i64 (-(k : Int)), .int .i64 64, .int .i64 (-63)] isI (by
  intro v hv
  simp only [List.mem_cons, List.not_mem_nil, or_false] at hv
  rcases hv with rfl | rfl | rfl | rfl | rfl | rfl | rfl | rfl | rfl | rfl <;> exact ⟨_, rfl, by unfold I64; omega⟩), (Below.refl _ w).alloc (Nat.le_refl _) _⟩
set_option maxHeartbeats 4000000 in
theorem seqNumbers_walk (w : World) : Calls Try.prog 3 #[] w (Yes w) := by
  have HL1 := Lib.hid (newI w)
  go_enter Try.func3, Try.ntmps3
  go_upto_region 2 with (fail)
  generalize w.alloc (.cells #[.int .i64 (-9223372036854775808), .int .i64 (-1), .int .i64 0, .int .i64 5, .int .i64 32767, .int .i64 32768, .int .i64 65535, .int .i64 65536, .int .i64 98304, .int .i64 2147483648, .int .i64 4294967295, .int .i64 4294967296, .int .i64 6442450944, .int .i64 281474976710656, .int .i64 9223372036854775807, .int .i64 9223372036854705808] 2) = W1 at HL1 ⊢
  obtain ⟨g1, hg1⟩ : ∃ g, g = w.heap.size := ⟨_, rfl⟩
  have HL : Hid (LitK 16 isI g1 W1 ∧ Below w.heap.size w W1) := Lib.hid (by rw [hg1]; exact HL1.out)
  rw [← hg1]
  clear HL1 hg1
  go_loopw [13] (fun i wr => (∃ q : Nat, q ≤ 16 ∧ i = .int .i64 (q : Int) ∧ Hid (LitK 16 isI g1 wr ∧ Below w.heap.size w wr))) (fun i _ => 16 - (intOf i).toNat)
  case atStart => exact ⟨0, by omega, rfl, HL⟩
  case round =>
    obtain ⟨q, hq, rfl, HQ⟩ := hrel
    clear HL
    by_cases hlt : q < 16
    · have g1t : decide ((q : Int) < 16) = true := by simp; omega
      have g1' : (q : Int) < 16 := by omega
      obtain ⟨v, ⟨z, rfl, hz⟩, c1⟩ := HQ.out.1.2 q hlt
      have HZ := Lib.hid hz
      have HL2 := Lib.hid (newH wr)
      clear hz
      go_upto_region 5 with (fail)
      generalize hW2 : wr.alloc (.cells #[.int .u16 0, .int .u16 1, .int .u16 32767, .int .u16 32768, .int .u16 32769, .int .u16 65535] 23) = W2 at HL2 ⊢
      obtain ⟨g2, hg2⟩ : ∃ g, g = wr.heap.size := ⟨_, rfl⟩
      have HL : Hid (LitK 16 isI g1 W2 ∧ Below w.heap.size w W2 ∧ LitK 6 isH g2 W2) := Lib.hid (by rw [hg2]; exact ⟨HQ.out.1.on HL2.out.2, HQ.out.2.trans (HL2.out.2.mono HQ.out.2.size), HL2.out.1⟩)
      rw [← hg2]
      clear HL2 hg2 hW2 HQ c1
      obtain ⟨wo, rfl⟩ : ∃ wo, wo = wr := ⟨_, rfl⟩
      go_loopw [19] (fun i wr => (∃ p : Nat, p ≤ 6 ∧ i = .int .i64 (p : Int) ∧ Hid (LitK 16 isI g1 wr ∧ Below w.heap.size w wr ∧ LitK 6 isH g2 wr))) (fun i _ => 6 - (intOf i).toNat)
      case atStart => exact ⟨0, by omega, rfl, HL⟩
      case round =>
        obtain ⟨p, hp, rfl, HP⟩ := hrel
        clear HL
        by_cases hlp : p < 6
        · have g2t : decide ((p : Int) < 6) = true := by simp; omega
          have g2' : (p : Int) < 6 := by omega
          obtain ⟨v, ⟨x, rfl, hx⟩, c2⟩ := HP.out.2.2.2 p hlp
          have HX := Lib.hid hx
          have HL3 := Lib.hid (newW wr)
          clear hx
          go_upto_region 8 with (fail)
          generalize hW3 : wr.alloc (.cells #[.int .u32 0, .int .u32 1, .int .u32 2147483647, .int .u32 2147483648, .int .u32 2147483649, .int .u32 4294967295] 25) = W3 at HL3 ⊢
          obtain ⟨g3, hg3⟩ : ∃ g, g = wr.heap.size := ⟨_, rfl⟩
          have HL : Hid (LitK 16 isI g1 W3 ∧ Below w.heap.size w W3 ∧ LitK 6 isH g2 W3 ∧ LitK 6 isW g3 W3) := Lib.hid (by rw [hg3]; exact ⟨HP.out.1.on HL3.out.2, HP.out.2.1.trans (HL3.out.2.mono HP.out.2.1.size), HP.out.2.2.on HL3.out.2, HL3.out.1⟩)
          rw [← hg3]
          clear HL3 hg3 hW3 HP c2
          obtain ⟨wp, rfl⟩ : ∃ wo, wo = wr := ⟨_, rfl⟩
          go_loopw [25] (fun i wr => (∃ s : Nat, s ≤ 6 ∧ i = .int .i64 (s : Int) ∧ Hid (LitK 16 isI g1 wr ∧ Below w.heap.size w wr ∧ LitK 6 isH g2 wr ∧ LitK 6 isW g3 wr))) (fun i _ => 6 - (intOf i).toNat)
          case atStart => exact ⟨0, by omega, rfl, HL⟩
          case round =>
            obtain ⟨s, hs, rfl, HS⟩ := hrel
            clear HL
            by_cases hls : s < 6
            · have g3t : decide ((s : Int) < 6) = true := by simp; omega
              have g3' : (s : Int) < 6 := by omega
              obtain ⟨v, ⟨y, rfl, hy⟩, c3⟩ := HS.out.2.2.2.2 s hls
              have hsm := fun W => same15_any z x y HZ.out HX.out hy W
              have HSM := Lib.hid hsm
              clear hy hsm
              go_wp2_with fail
              refine (HSM.out _).mono ?_
              rintro e w4 ⟨rfl, b4⟩
              have H4 : Hid (LitK 16 isI g1 w4 ∧ Below w.heap.size w w4 ∧ LitK 6 isH g2 w4 ∧ LitK 6 isW g3 w4) := Lib.hid ⟨HS.out.1.on b4, HS.out.2.1.trans (b4.mono HS.out.2.1.size), HS.out.2.2.1.on b4, HS.out.2.2.2.on b4⟩
              clear b4 HSM HS c3
              go_wp2_with fail
              go_roundw
              case rel => exact ⟨s + 1, by omega, by go_num, H4⟩
              case measure => simp [intOf]; omega
            · have g3t : decide ((s : Int) < 6) = false := by simp; omega
              have H4 : Hid (LitK 16 isI g1 wr ∧ Below w.heap.size w wr ∧ LitK 6 isH g2 wr) := Lib.hid ⟨HS.out.1, HS.out.2.1, HS.out.2.2.1⟩
              clear HS
              go_wp2_with fail
              go_roundw
              case rel => exact ⟨p + 1, by omega, by go_num, H4⟩
              case measure => simp [intOf]; omega
        · have g2t : decide ((p : Int) < 6) = false := by simp; omega
          have H4 : Hid (LitK 16 isI g1 wr ∧ Below w.heap.size w wr) := Lib.hid ⟨HP.out.1, HP.out.2.1⟩
          clear HP
          go_wp2_with fail
          go_roundw
          case rel => exact ⟨q + 1, by omega, by go_num, H4⟩
          case measure => simp [intOf]; omega
    · have g1t : decide ((q : Int) < 16) = false := by simp; omega
      have HB := Lib.hid HQ.out.2
      clear HQ
      go_upto_region 16 with (fail)
      clear hlt hq
      go_loopw [7, 8, 9, 10] (fun i _ _ _ wr => (∃ k : Nat, k ≤ 60 ∧ i = .int .i64 (k : Int) ∧ Hid (Below w.heap.size w wr))) (fun i _ _ _ _ => 60 - (intOf i).toNat)
      case atStart => exact ⟨0, by omega, rfl, HB⟩
      case round =>
        obtain ⟨k, hk, rfl, HK⟩ := hrel
        clear HB
        by_cases hlk : k < 60
        · have gk : decide ((k : Int) < 60) = true := by simp; omega
          have gk' : (k : Int) < 60 := by omega
          go_upto_region 21 with (fail)
          obtain ⟨wo, rfl⟩ : ∃ wo, wo = wr := ⟨_, rfl⟩
          go_loopw [8, 9, 10] (fun v a i wr => (∃ (q : Nat) (t : Int) (B : Option Addr) (cb : Nat), q ≤ 150 ∧ i = .int .i64 (q : Int) ∧ v = .slice B q cb ∧ a = .int .i64 t ∧ Hid (∃ l, NumH w q v l wr ∧ I64 t))) (fun _ _ i _ => 150 - (intOf i).toNat)
          case atStart => exact ⟨0, 65400, none, 0, by omega, rfl, rfl, rfl, Lib.hid ⟨[], NumH.start HK.out, by unfold I64; omega⟩⟩
          case round =>
            obtain ⟨q, t, B, cb, hq, rfl, rfl, rfl, HQ⟩ := hrel
            clear HK
            obtain ⟨l, hs⟩ := HQ.out
            have HS := Lib.hid hs
            clear hs HQ
            by_cases hlq : q < 150
            · have gq : decide ((q : Int) < 150) = true := by simp; omega
              have gq' : (q : Int) < 150 := by omega
              obtain ⟨s, hs⟩ : ∃ s, s = q * q := ⟨_, rfl⟩
              have hs2 : s ≤ 22500 := by rw [hs]; exact Nat.le_trans (Nat.mul_le_mul (show q ≤ 150 by omega) (show q ≤ 150 by omega)) (by decide)
              have y1 : IntKind.i64.wrap ((q : Int) * (q : Int)) = (s : Int) := by
                have : (q : Int) * (q : Int) = (s : Int) := by rw [hs]; push_cast; rfl
                rw [this, IntKind.wrap_i64]
                omega
              obtain ⟨r, hr⟩ : ∃ r, r = (s + k) % 10 := ⟨_, rfl⟩
              have hr10 : r < 10 := by omega
              have y2 : ((s : Int) + (k : Int)).tmod 10 = (r : Int) := by rw [Int.tmod_eq_emod_of_nonneg (by omega)]; omega
              have hnew := newS10 wr k hlk
              obtain ⟨v, ⟨z, rfl, hz⟩, c4⟩ := hnew.1.2 r hr10
              obtain ⟨y, hy⟩ : ∃ y, IntKind.i64.wrap (t + z) = y := ⟨_, rfl⟩
              have hyI : I64 y := by rw [← hy, IntKind.wrap_i64]; unfold I64; omega
              obtain ⟨ky, ky1, ky2, ky3⟩ := u16_of y
              have hh := HS.out.1.on hnew.2
              have oA := hh.own.on ((Below.refl _ (wr.alloc (.cells #[.int .i64 1, .int .i64 1, .int .i64 3, .int .i64 (-2), .int .i64 1, .int .i64 0, .int .i64 (k : Int), .int .i64 (-(k : Int)), .int .i64 64, .int .i64 (-63)] 3))).alloc (Nat.le_refl _) (.cells #[.int .u16 (ky : Int)] 23))
              have rA := one_h16 (wr.alloc (.cells #[.int .i64 1, .int .i64 1, .int .i64 3, .int .i64 (-2), .int .i64 1, .int .i64 0, .int .i64 (k : Int), .int .i64 (-(k : Int)), .int .i64 64, .int .i64 (-63)] 3)) ky
              rw [show (wr.alloc (.cells #[.int .i64 1, .int .i64 1, .int .i64 3, .int .i64 (-2), .int .i64 1, .int .i64 0, .int .i64 (k : Int), .int .i64 (-(k : Int)), .int .i64 64, .int .i64 (-63)] 3)).heap.size = wr.heap.size + 1 by simp] at rA
              have sA : w.heap.size ≤ ((wr.alloc (.cells #[.int .i64 1, .int .i64 1, .int .i64 3, .int .i64 (-2), .int .i64 1, .int .i64 0, .int .i64 (k : Int), .int .i64 (-(k : Int)), .int .i64 64, .int .i64 (-63)] 3)).alloc (.cells #[.int .u16 (ky : Int)] 23)).heap.size := by have := HS.out.1.below.size; simp; omega
              have hll : l.length + 1 ≤ 1000000 := by have := HS.out.1.len; omega
              have HO := Lib.hid (⟨oA, rA, sA, hll, ky2, hh, hyI⟩ : _ ∧ _ ∧ _ ∧ _ ∧ _ ∧ _ ∧ _)
              clear oA rA sA hll ky2 ky3 hh hyI hnew hs hr hz
              go_wp2_with (at_builtin; go_loud (with_reducible refine wpList_appendH rfl (.tmp 59) (.tmp 62) rfl rfl w.heap.size (.slice B q cb) l (by with_unfolding_all rfl) HO.out.1 _ _ ky (by with_unfolding_all rfl) HO.out.2.1 HO.out.2.2.2.1 HO.out.2.2.1 ?_); intro v9 w9 ha9)
              have HR9 := Lib.hid (HO.out.2.2.2.2.2.1.more HO.out.2.2.2.2.1 ha9.1 ha9.2)
              obtain ⟨A9, c9, e9⟩ := HR9.out.val
              have HE := Lib.hid e9
              clear ha9 e9
              go_roundw
              case rel => exact ⟨q + 1, y, A9, c9, by omega, by go_num, HE.out, rfl, Lib.hid ⟨_, HR9.out, HO.out.2.2.2.2.2.2⟩⟩
              case measure => simp [intOf]; omega
            · have gq : decide ((q : Int) < 150) = false := by simp; omega
              have HP := Lib.hid HS.out.1.rk
              clear hlq
              go_wp2_with fail
              refine (play_any B q cb _ _ HP.out (by omega)).mono ?_
              rintro e w6 ⟨rfl, d6⟩
              have H6 := Lib.hid (HS.out.1.on d6).below
              clear d6 HS HP
              go_wp2_with fail
              go_roundw
              case rel => exact ⟨k + 1, by omega, by go_num, H6⟩
              case measure => simp [intOf]; omega
        · have gk : decide ((k : Int) < 60) = false := by simp; omega
          go_upto_region 27 with (fail)
          go_wp2_with fail
          refine (play_any none 0 0 _ _ (RK.nil _ _ _ _ _) (by omega)).mono ?_
          rintro e w6 ⟨rfl, d6⟩
          have H6 := Lib.hid (HK.out.trans (d6.mono HK.out.size))
          clear d6 HK
          have HP := Lib.hid (lit_rk (l := [5, 69, 6, 5, 70, 6]) (Blk.new w6 23 #[.int .u16 5, .int .u16 69, .int .u16 6, .int .u16 5, .int .u16 70, .int .u16 6]) rfl (by simp))
          have HB6 := Lib.hid ((Below.refl _ w6).alloc (Nat.le_refl _) (.cells #[.int .u16 5, .int .u16 69, .int .u16 6, .int .u16 5, .int .u16 70, .int .u16 6] 23))
          go_wp2_with fail
          refine (play_any (some ⟨w6.heap.size, 0, none⟩) 6 6 _ _ HP.out (by omega)).mono ?_
          rintro e w7 ⟨rfl, d7⟩
          have H7 := Lib.hid (H6.out.trans ((HB6.out.trans (d7.mono HB6.out.size)).mono H6.out.size))
          clear d7 H6 HP HB6
          go_wp2_with fail
          refine (known15_any _).mono ?_
          rintro e w8 ⟨rfl, d8⟩
          have H8 := Lib.hid (H7.out.trans (d8.mono H7.out.size))
          clear d8 H7
          go_wp2_with fail
          go_ret
          exact ⟨rfl, H8.out⟩
end Go.Proofs.Ytmkbbndfdgnakaa
