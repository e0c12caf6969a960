/- The walk of layer 7's law ValueNumbers. -/
import Derived.Test.YtgopfoanhiedfaaVlK
import Derived.Test.YtgopfoanhiedfaaVlL
namespace Go.Proofs.Ytgopfoanhiedfaa
open Go.RowKit
set_option linter.unusedVariables false
set_option linter.unusedSimpArgs false
set_option maxRecDepth 20000

/-- The texts, the numbers that the law goes through. -/
def nStrs : Array Value := #[.string ⟨#[]⟩, .string ⟨#[97]⟩, .string ⟨#[228, 184, 150, 255]⟩, .string ⟨#[108, 111]⟩, .string ⟨#[49, 50, 51, 52, 53, 54, 55, 56, 57]⟩]
def nNums : Array Value := #[.int .i64 0, .int .i64 1, .int .i64 (-1), .int .i64 8192, .int .i64 8193, .int .i64 4294967295, .int .i64 4294967296, .int .i64 9223372036854775807, .int .i64 (-9223372036854775808)]
theorem nStrs_at : ∀ k, k < 5 → ∃ s : ByteArray, nStrs[k]? = some (.string s) ∧ s.size ≤ 60 := by
  intro k hk
  match k, hk with
  | 0, _ => exact ⟨_, rfl, by decide⟩
  | 1, _ => exact ⟨_, rfl, by decide⟩
  | 2, _ => exact ⟨_, rfl, by decide⟩
  | 3, _ => exact ⟨_, rfl, by decide⟩
  | 4, _ => exact ⟨_, rfl, by decide⟩
  | j + 5, h => omega
theorem nNums_at : ∀ k, k < 9 → ∃ n : Int, nNums[k]? = some (.int .i64 n) ∧ I64 n := by
  intro k hk
  match k, hk with
  | 0, _ => exact ⟨_, rfl, by unfold I64; omega⟩
  | 1, _ => exact ⟨_, rfl, by unfold I64; omega⟩
  | 2, _ => exact ⟨_, rfl, by unfold I64; omega⟩
  | 3, _ => exact ⟨_, rfl, by unfold I64; omega⟩
  | 4, _ => exact ⟨_, rfl, by unfold I64; omega⟩
  | 5, _ => exact ⟨_, rfl, by unfold I64; omega⟩
  | 6, _ => exact ⟨_, rfl, by unfold I64; omega⟩
  | 7, _ => exact ⟨_, rfl, by unfold I64; omega⟩
  | 8, _ => exact ⟨_, rfl, by unfold I64; omega⟩
  | j + 9, h => omega
theorem wrap32_in (n : Int) : -2147483648 ≤ wrap32 n ∧ wrap32 n ≤ 2147483647 := by unfold wrap32; omega
/-- Two values begin with a text: no layer. -/
theorem items_pair {w : World} {A : Option Addr} {c : Nat} {s : ByteArray} {v : Value} (h : RX w w.heap.size A 2 c 1 [.iface 9 (.string s), v]) : Items w A 2 c [⟨2, [zL], 1⟩] :=
  items_str 2 rfl zL_in h (fun W _ => layer_few _ 2 _ W (by decide) (by decide)) (items_nil _ _ _)
theorem items_num {w : World} {A : Option Addr} {c : Nat} {n : Int} {s : ByteArray} {v : Value} (h : RX w w.heap.size A 3 c 1 [.iface 3 (.int .i64 n), .iface 9 (.string s), v]) : Items w A 3 c [⟨1, [zL], 1⟩, ⟨2, [zL], 1⟩] :=
  items_not h (by decide) (items_pair (h.drop1 1 (by omega)))
theorem items_strs {w : World} {A : Option Addr} {c : Nat} {v : Value} (h : RX w w.heap.size A 1 c 1 [.iface 22 v]) : Items w A 1 c [⟨1, [zL], 1⟩] :=
  items_not h (by decide) (items_nil _ _ _)
theorem l3_4 : l3 ⟨#[97]⟩ 1 4 = ⟨⟨#[97]⟩, 1, 4⟩ := by kernel_rfl
theorem l3E_4 : l3E ⟨#[97]⟩ 1 4 = 0 := by kernel_rfl
theorem cnt_four : cnt ⟨#[102, 111, 117, 114]⟩ = 4 := by decide
set_option maxHeartbeats 8000000 in
theorem valueNumbers_walk (w : World) : Calls Try.prog 3 #[] w (Yes w) := by
  go_enter Try.func3, Try.ntmps3
  have g1 := Blk.new w 9 nStrs
  have b1 := below_alloc w (.cells nStrs 9)
  go_wp2_with fail
  change Code.wp _ _ _ _ (w.alloc (.cells nStrs 9))
  generalize w.alloc (.cells nStrs 9) = W1 at g1 b1 ⊢
  generalize hG : w.heap.size = G at g1 ⊢
  have HG := Lib.hid hG
  clear hG
  go_loopw [19] (fun i wr => ∃ k : Nat, k ≤ 5 ∧ i = .int .i64 k ∧ Below w.heap.size w wr ∧ Hid (Blk wr G 9 nStrs)) (fun i _ => 5 - (intOf i).toNat)
  case atStart => exact ⟨0, by omega, rfl, b1, Lib.hid g1⟩
  case round =>
    clear b1 g1
    obtain ⟨k, hk, rfl, hb, HB⟩ := hrel
    by_cases hlt : k < 5
    · obtain ⟨s, hv, hs⟩ := nStrs_at k hlt
      have hc := (HB.out.cell k).trans hv
      have hGl := HB.out.lt
      clear hv
      have g2 := Blk.new wr 2 nNums
      have ba := below_alloc wr (.cells nNums 2)
      have b2 := hb.trans (ba.mono hb.size)
      have HB2 := Lib.hid (HB.out.below ba HB.out.lt)
      clear ba hb HB
      have gk : decide ((k : Int) < 5) = true := by simp; omega
      go_wp2_with fail
      change Code.wp _ _ _ _ (wr.alloc (.cells nNums 2))
      generalize wr.alloc (.cells nNums 2) = W2 at g2 b2 HB2 ⊢
      generalize hG2 : wr.heap.size = G2 at g2 ⊢
      clear hG2 hc
      have hGl2 := HB2.out.lt
      go_loopw [25] (fun i wr => ∃ j : Nat, j ≤ 9 ∧ i = .int .i64 j ∧ Below w.heap.size w wr ∧ Hid (Blk wr G 9 nStrs) ∧ Hid (Blk wr G2 2 nNums)) (fun i _ => 9 - (intOf i).toNat)
      case atStart => exact ⟨0, by omega, rfl, b2, HB2, Lib.hid g2⟩
      case round =>
        clear b2 HB2 g2
        obtain ⟨j, hj, rfl, hb, HB, HC⟩ := hrel
        by_cases hlj : j < 9
        · obtain ⟨n, hv, hn⟩ := nNums_at j hlj
          have hc := (HC.out.cell j).trans hv
          have hl2 := HC.out.lt
          clear hv
          have hn' := hn
          unfold I64 at hn'
          have HN := Lib.hid hn
          clear hn
          obtain ⟨u, hu, hul⟩ : ∃ u : Nat, n % 4294967296 = (u : Int) ∧ u < 4294967296 := ⟨(n % 4294967296).toNat, by omega, by omega⟩
          have hw := wrap32_in n
          have c2 : ∀ W, Calls Try.prog 7 #[.string s, .int .i64 n, .int .i64 720, .agg #[.string s, .int .u32 5, .int .i64 n], .slice none 0 0] W (Yes W) := fun W => lay_law s n 720 ⟨s, 5, n⟩ none 0 0 [] W (by omega) HN.out (i64_of 720 (by omega)) ⟨by show s.size ≤ _; omega, by show 5 < 4294967296; omega, HN.out⟩ (RL.nil _ _ _ _) (by omega)
          have c3 : ∀ W : World, Calls Try.prog 7 #[.string s, .int .i64 3, .int .i64 n, .agg #[.string ⟨#[98]⟩, .int .u32 (u : Int), .int .i64 9], .slice (some ⟨W.heap.size, 0, none⟩) 1 1] (W.alloc (.cells #[.string s, .int .u32 0, .int .i64 4] 28)) (Yes (W.alloc (.cells #[.string s, .int .u32 0, .int .i64 4] 28))) := fun W => lay_law s 3 n ⟨⟨#[98]⟩, u, 9⟩ (some ⟨W.heap.size, 0, none⟩) 1 1 [⟨s, 0, 4⟩] (W.alloc (.cells #[.string s, .int .u32 0, .int .i64 4] 28)) (by omega) (i64_of 3 (by omega)) HN.out ⟨by show (⟨#[98]⟩ : ByteArray).size ≤ 140737488355328; decide, hul, i64_of 9 (by omega)⟩ ((one_rl W ⟨s, 0, 4⟩ ⟨by show s.size ≤ _; omega, by show 0 < 4294967296; omega, i64_of 4 (by omega)⟩).more (by simp)) (by omega)
          have C2 := Lib.hid c2
          have C3 := Lib.hid c3
          clear c2 c3
          have c1 := fun W => values_any n (wrap32 n) u s (decide (0 < n)) W HN.out hw.1 hw.2 hul (by omega)
          go_wp2_with fail
          refine (c1 _).mono ?_
          rintro e w1 ⟨rfl, b1⟩
          have HB := Lib.hid (HB.out.below b1 HB.out.lt)
          have HC := Lib.hid (HC.out.below b1 HC.out.lt)
          have hb1 := hb.trans (b1.mono hb.size)
          clear b1 hb c1 hc
          go_wp2_with fail
          refine (C2.out _).mono ?_
          rintro e w2 ⟨rfl, b2⟩
          have HBb := Lib.hid (HB.out.below b2 HB.out.lt)
          have HCb := Lib.hid (HC.out.below b2 HC.out.lt)
          have hb2 := hb1.trans (b2.mono hb1.size)
          clear b2 hb1
          go_wp2_with fail
          refine (C3.out _).mono ?_
          rintro e w3 ⟨rfl, b3⟩
          have ba := below_alloc w2 (.cells #[.string s, .int .u32 0, .int .i64 4] 28)
          have b4 := ba.trans (b3.mono ba.size)
          have HBc := Lib.hid (HBb.out.below b4 HBb.out.lt)
          have HCc := Lib.hid (HCb.out.below b4 HCb.out.lt)
          have hb3 := hb2.trans (b4.mono hb2.size)
          clear b3 ba b4 hb2
          go_wp2_with fail
          go_roundw
          case rel => exact ⟨j + 1, by omega, by go_num, hb3, HBc, HCc⟩
          case measure => simp [intOf]; omega
        · have hj9 : j = 9 := by omega
          subst hj9
          clear HC hlj hj
          go_wp2_with fail
          go_roundw
          case rel => exact ⟨k + 1, by omega, by go_num, hb, HB⟩
          case measure => simp [intOf]; omega
    · have hk5 : k = 5 := by omega
      subst hk5
      clear HB hlt hk
      have hNo := int_no (NoInt.of 36 (.agg #[.int .i64 0]) (by decide))
      have hT : IntOut (.iface 4 (.bool true)) 1 true := int_bool true
      have hFo : IntOut (.iface 9 (.string ⟨#[102, 111, 117, 114]⟩)) 4 true := by
        have := int_str ⟨#[102, 111, 117, 114]⟩ (by decide)
        rwa [cnt_four] at this
      have c1 := fun (A : Option Addr) (c : Nat) (w : World) (h : RX w w.heap.size A 2 c 1 [.iface 9 (.string ⟨#[97]⟩), .iface 3 (.int .i64 1)]) => layers_any A 2 c _ w (by omega) (items_pair h)
      have c2 := fun (A : Option Addr) (c : Nat) (w : World) (h : RX w w.heap.size A 3 c 1 [.iface 3 (.int .i64 1), .iface 9 (.string ⟨#[97]⟩), .iface 3 (.int .i64 2)]) => layers_any A 3 c _ w (by omega) (items_num h)
      have c3 := fun (w : World) => layers_any none 0 0 _ w (by omega) (items_nil w none 0)
      have c4 := fun (A : Option Addr) (c : Nat) (w : World) => layer3_no A c ⟨#[97]⟩ _ _ 0 2 false true w (by decide) (i64_of 0 (by omega)) (i64_of 2 (by omega)) hNo (int_int 2) (.inl rfl)
      have c5 := fun (A : Option Addr) (c : Nat) (w : World) => layer3_yes A c ⟨#[97]⟩ _ _ 1 4 true true w (by decide) (i64_of 1 (by omega)) (i64_of 4 (by omega)) hT hFo rfl rfl (by decide)
      have c6 := fun (A : Option Addr) (c : Nat) (v : Value) (w : World) (h : RX w w.heap.size A 1 c 1 [.iface 22 v]) => layers_any A 1 c _ w (by omega) (items_strs h)
      rw [l3_4, l3E_4] at c5
      rw [zL_val] at c4
      simp only [show resL [] [⟨2, [zL], 1⟩] = ([], 1) from rfl] at c1
      simp only [show resL [] [⟨1, [zL], 1⟩, ⟨2, [zL], 1⟩] = ([], 1) from rfl] at c2
      simp only [show resL [] [] = ([], 0) from rfl] at c3
      simp only [show resL [] [⟨1, [zL], 1⟩] = ([], 1) from rfl] at c6
      have D1 := Lib.hid c1
      have D2 := Lib.hid c2
      have D3 := Lib.hid c3
      have D4 := Lib.hid c4
      have D5 := Lib.hid c5
      have D6 := Lib.hid c6
      clear c1 c2 c3 c4 c5 c6 hNo hT hFo
      have r1 := rx_lit wr wr.heap.size 2 20 _ #[.iface 9 (.string ⟨#[97]⟩), .iface 3 (.int .i64 1)] rfl rfl rfl
      have ba := below_alloc wr (.cells #[.iface 9 (.string ⟨#[97]⟩), .iface 3 (.int .i64 1)] 20)
      go_wp2_with fail
      refine (D1.out _ _ _ r1).mono ?_
      rintro e w1 ⟨P1, d1, rfl, _, b1⟩
      have y1 := (hb.trans (ba.mono hb.size)).trans (b1.mono (hb.trans (ba.mono hb.size)).size)
      clear b1 ba r1 hb
      have r2 := rx_lit w1 w1.heap.size 3 20 _ #[.iface 3 (.int .i64 1), .iface 9 (.string ⟨#[97]⟩), .iface 3 (.int .i64 2)] rfl rfl rfl
      have ba := below_alloc w1 (.cells #[.iface 3 (.int .i64 1), .iface 9 (.string ⟨#[97]⟩), .iface 3 (.int .i64 2)] 20)
      go_wp2_with fail
      refine (D2.out _ _ _ r2).mono ?_
      rintro e w2 ⟨P2, d2, rfl, _, b2⟩
      have y2 := (y1.trans (ba.mono y1.size)).trans (b2.mono (y1.trans (ba.mono y1.size)).size)
      clear b2 ba r2 y1
      go_wp2_with fail
      refine (D3.out _).mono ?_
      rintro e w3 ⟨P3, d3, rfl, _, b3⟩
      have y3 := y2.trans (b3.mono y2.size)
      clear b3 y2
      have r4 := rx_lit w3 w3.heap.size 3 20 _ #[.iface 9 (.string ⟨#[97]⟩), .iface 36 (.agg #[.int .i64 0]), .iface 3 (.int .i64 2)] rfl rfl rfl
      have ba := below_alloc w3 (.cells #[.iface 9 (.string ⟨#[97]⟩), .iface 36 (.agg #[.int .i64 0]), .iface 3 (.int .i64 2)] 20)
      go_wp2_with fail
      refine (D4.out _ _ _ r4).mono ?_
      rintro e w4 ⟨rfl, b4⟩
      have y4 := (y3.trans (ba.mono y3.size)).trans (b4.mono (y3.trans (ba.mono y3.size)).size)
      clear b4 ba r4 y3
      have r5 := rx_lit (w4.alloc (.cells #[.string ⟨#[]⟩, .int .u32 0, .int .i64 0] 28)) (w4.heap.size + 1) 3 20 _ #[.iface 9 (.string ⟨#[97]⟩), .iface 4 (.bool true), .iface 9 (.string ⟨#[102, 111, 117, 114]⟩)] (by simp) rfl rfl
      have ba := (below_alloc w4 (.cells #[.string ⟨#[]⟩, .int .u32 0, .int .i64 0] 28)).alloc (by simp) (.cells #[.iface 9 (.string ⟨#[97]⟩), .iface 4 (.bool true), .iface 9 (.string ⟨#[102, 111, 117, 114]⟩)] 20)
      go_wp2_with fail
      refine (D5.out _ _ _ r5).mono ?_
      rintro e w5 ⟨rfl, b5⟩
      have y5 := (y4.trans (ba.mono y4.size)).trans (b5.mono (y4.trans (ba.mono y4.size)).size)
      clear b5 ba r5 y4
      have r6 := rx_lit ((w5.alloc (.cells #[.string ⟨#[97]⟩, .int .u32 1, .int .i64 4] 28)).alloc (.cells #[.string ⟨#[97]⟩] 9)) (w5.heap.size + 1 + 1) 1 20 _ #[.iface 22 (.slice (some ⟨w5.heap.size + 1, 0, none⟩) 1 1)] (by simp) rfl rfl
      have ba := ((below_alloc w5 (.cells #[.string ⟨#[97]⟩, .int .u32 1, .int .i64 4] 28)).alloc (by simp) (.cells #[.string ⟨#[97]⟩] 9)).alloc (by simp; omega) (.cells #[.iface 22 (.slice (some ⟨w5.heap.size + 1, 0, none⟩) 1 1)] 20)
      have gF := ((Blk.new w5 28 #[.string ⟨#[97]⟩, .int .u32 1, .int .i64 4]).alloc (.cells #[.string ⟨#[97]⟩] 9)).alloc (.cells #[.iface 22 (.slice (some ⟨w5.heap.size + 1, 0, none⟩) 1 1)] 20)
      have GF := Lib.hid gF
      clear gF
      go_wp2_with fail
      refine (D6.out _ _ _ _ r6).mono ?_
      rintro e w6 ⟨P6, d6, rfl, _, b6⟩
      have y6 := (y5.trans (ba.mono y5.size)).trans (b6.mono (y5.trans (ba.mono y5.size)).size)
      have gF := GF.out.below b6 GF.out.lt
      have kF := (blk3 gF).1
      have lF := gF.lt
      clear b6 ba r6 y5 gF
      go_wp2_with fail
      refine (known_any _).mono ?_
      rintro e w7 ⟨rfl, b7⟩
      have y7 := y6.trans (b7.mono y6.size)
      clear b7 y6 kF
      go_wp2_with fail
      go_ret
      exact ⟨rfl, y7⟩
end Go.Proofs.Ytgopfoanhiedfaa
