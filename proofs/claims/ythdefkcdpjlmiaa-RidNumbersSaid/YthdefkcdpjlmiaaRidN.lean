/- The walk of layer 2's law RidNumbers. -/
import Derived.Test.YthdefkcdpjlmiaaRidS
namespace Go.Proofs.Ythdefkcdpjlmiaa
open Go.RowKit
set_option linter.unusedVariables false
set_option linter.unusedSimpArgs false

/-- Two texts, one behind the other, if they are not long. -/
theorem cat_any (a b : ByteArray) (n : Nat) (h : a.size + b.size ≤ n) (hn : n ≤ 1000000) : ∃ c : ByteArray, c.size ≤ n ∧ ∀ W : World, (Op.stringOp .add a b).run Try.prog W = .ok (.string c) W :=
  ⟨a ++ b, by rw [ByteArray.size_append]; exact h, fun W => run_string_add_sum (P := Try.prog) (w := W) a b (by omega)⟩
theorem rune_text (r : Nat) : ∃ E : ByteArray, E.size ≤ 4 ∧ Utf8.encode (r : Int) = E :=
  ⟨_, by rw [encode_eq, size_mk]; exact (encodeRune_len _).2, rfl⟩
def six : List ByteArray := [⟨#[255]⟩, ⟨#[239, 191, 189]⟩, ⟨#[97, 228, 184]⟩, ⟨#[65, 255]⟩, ⟨#[97, 255]⟩, ⟨#[228, 184, 150, 120]⟩]
def sixC : Array Value := (six.map Value.string).toArray
theorem six_cell (w w' : World) (hb : Below (w.alloc (.cells sixC 9)).heap.size (w.alloc (.cells sixC 9)) w') (q : Nat) (hq : q < 6) :
    ∃ z : ByteArray, z.size ≤ 4 ∧ w'.cell? ⟨w.heap.size, q, none⟩ = some (.string z) := by
  have h : Blk (w.alloc (.cells sixC 9)) w.heap.size 9 sixC := Blk.new _ _ _
  have h2 := (h.below hb h.lt).cell q
  match q, hq with
  | 0, _ => exact ⟨⟨#[255]⟩, by decide, h2⟩
  | 1, _ => exact ⟨⟨#[239, 191, 189]⟩, by decide, h2⟩
  | 2, _ => exact ⟨⟨#[97, 228, 184]⟩, by decide, h2⟩
  | 3, _ => exact ⟨⟨#[65, 255]⟩, by decide, h2⟩
  | 4, _ => exact ⟨⟨#[97, 255]⟩, by decide, h2⟩
  | 5, _ => exact ⟨⟨#[228, 184, 150, 120]⟩, by decide, h2⟩
set_option maxHeartbeats 2000000 in
theorem ridNumbers_walk (w : World) : Calls Try.prog 3 #[] w (Yes w) := by
  go_enter Try.func3, Try.ntmps3
  go_wp2_with fail
  go_loopw [1] (fun v wr => ∃ r : Nat, r ≤ 1100 ∧ v = .int .i32 r ∧ Below w.heap.size w wr) (fun v _ => (1100 - intOf v).toNat)
  case atStart => exact ⟨0, by omega, rfl, Below.refl _ _⟩
  case round =>
    obtain ⟨r, hr, rfl, hb⟩ := hrel
    by_cases hlt : r < 1100
    · have h1 : (r : Int) < 1100 := by omega
      obtain ⟨E, hE, hEe⟩ := rune_text r
      obtain ⟨P1, hP1, hPe1⟩ := cat_any ⟨#[97]⟩ E 5 (by rw [show (⟨#[97]⟩ : ByteArray).size = 1 from rfl]; omega) (by omega)
      obtain ⟨P2, hP2, hPe2⟩ := cat_any ⟨#[120]⟩ E 5 (by rw [show (⟨#[120]⟩ : ByteArray).size = 1 from rfl]; omega) (by omega)
      obtain ⟨P3, hP3, hPe3⟩ := cat_any E ⟨#[120]⟩ 5 (by rw [show (⟨#[120]⟩ : ByteArray).size = 1 from rfl]; omega) (by omega)
      go_wp2_with fail
      refine (lawsame E P1 _ _ (by omega) (by omega) (by unfold I64; omega)).mono ?_
      rintro e w1 ⟨rfl, b1⟩
      have hb1 := hb.trans (b1.mono hb.size)
      clear hb b1
      go_wp2_with fail
      refine (lawsame P2 P3 1 _ (by omega) (by omega) (i64_small 1 (by omega))).mono ?_
      rintro e w2 ⟨rfl, b2⟩
      have hb2 := hb1.trans (b2.mono hb1.size)
      clear hb1 b2
      go_wp2_with fail
      go_roundw
      case rel => exact ⟨r + 1, by omega, by go_num, hb2⟩
      case measure => simp [intOf]; omega
    · have h1 : ¬ (r : Int) < 1100 := by omega
      clear hr hlt
      go_wp2_with fail
      clear h1
      go_loopw [2, 3] (fun u v wr => ∃ (L : ByteArray) (i : Nat), L.size ≤ i ∧ i ≤ 10 ∧ u = .string L ∧ v = .int .i64 i ∧ Below w.heap.size w wr) (fun _ v _ => (10 - intOf v).toNat)
      case atStart => exact ⟨⟨#[]⟩, 0, by decide, by omega, rfl, rfl, hb⟩
      case round =>
        clear hb
        obtain ⟨L, i, hL, hi, rfl, rfl, hb⟩ := hrel
        by_cases hlt : i < 10
        · have h1 : (i : Int) < 10 := by omega
          obtain ⟨P1, hP1, hPe1⟩ := cat_any L ⟨#[228, 184, 150]⟩ 20 (by rw [show (⟨#[228, 184, 150]⟩ : ByteArray).size = 3 from rfl]; omega) (by omega)
          obtain ⟨P2, hP2, hPe2⟩ := cat_any L ⟨#[97]⟩ (i + 1) (by rw [show (⟨#[97]⟩ : ByteArray).size = 1 from rfl]; omega) (by omega)
          go_wp2_with fail
          refine (lawsame L P1 _ _ (by omega) (by omega) (by unfold I64; omega)).mono ?_
          rintro e w1 ⟨rfl, b1⟩
          have hb1 := hb.trans (b1.mono hb.size)
          clear hb b1
          go_wp2_with fail
          refine (lawsame P1 L _ _ (by omega) (by omega) (by unfold I64; omega)).mono ?_
          rintro e w2 ⟨rfl, b2⟩
          have hb2 := hb1.trans (b2.mono hb1.size)
          clear hb1 b2
          go_wp2_with fail
          go_roundw
          case rel => exact ⟨P2, i + 1, hP2, by omega, rfl, by go_num, hb2⟩
          case measure => simp [intOf]; omega
        · have h1 : ¬ (i : Int) < 10 := by omega
          clear hi hlt
          go_wp2_with fail
          have e5 : sixC = #[Value.string ⟨#[255]⟩, Value.string ⟨#[239, 191, 189]⟩, Value.string ⟨#[97, 228, 184]⟩, Value.string ⟨#[65, 255]⟩,
              Value.string ⟨#[97, 255]⟩, Value.string ⟨#[228, 184, 150, 120]⟩] := rfl
          rw [← e5]
          clear e5 h1 hL
          have hb0 : Below w.heap.size w (wr.alloc (.cells sixC 9)) := hb.alloc hb.size _
          have hcell := six_cell wr
          clear hb
          generalize wr.alloc (.cells sixC 9) = V at hb0 hcell ⊢
          generalize wr.heap.size = g at hcell ⊢
          go_loopw [5, 6, 54] (fun _ _ a wv => ∃ q : Nat, q ≤ 6 ∧ a = .int .i64 q ∧ Below V.heap.size V wv) (fun _ _ a _ => (6 - intOf a).toNat)
          case atStart => exact ⟨0, by omega, rfl, Below.refl _ _⟩
          case round =>
            obtain ⟨q, hq, rfl, hbv⟩ := hrel
            by_cases hq6 : q < 6
            · obtain ⟨z, hz, hc⟩ := hcell _ hbv q hq6
              have g1 : decide ((q : Int) < 6) = true := by simp; omega
              obtain ⟨P2, hP2, hPe2⟩ := cat_any z z 8 (by omega) (by omega)
              go_wp2_with fail
              clear hc
              go_loopw [6] (fun v wx => ∃ m : Int, -1 ≤ m ∧ m ≤ 6 ∧ v = .int .i64 m ∧ Below V.heap.size V wx) (fun v _ => (6 - intOf v).toNat)
              case atStart => exact ⟨-1, by omega, by omega, rfl, hbv⟩
              case round =>
                clear hbv
                obtain ⟨m, hm0, hm6, rfl, hbx⟩ := hrel
                by_cases hmm : m < 6
                · go_wp2_with fail
                  refine (lawsame z ⟨#[239, 191, 189]⟩ m _ (by omega) (by decide) (i64_small m (by omega))).mono ?_
                  rintro e w1 ⟨rfl, b1⟩
                  have hb1 := hbx.trans (b1.mono hbx.size)
                  clear hbx b1
                  go_wp2_with fail
                  refine (lawsame P2 z m _ (by omega) (by omega) (i64_small m (by omega))).mono ?_
                  rintro e w2 ⟨rfl, b2⟩
                  have hb2 := hb1.trans (b2.mono hb1.size)
                  clear hb1 b2
                  go_wp2_with fail
                  go_roundw
                  case rel => exact ⟨m + 1, by omega, by omega, by go_num, hb2⟩
                  case measure => simp [intOf]; omega
                · go_wp2_with fail
                  go_roundw
                  case rel => exact ⟨q + 1, by omega, by go_num, hbx⟩
                  case measure => simp [intOf]; omega
            · have hbw := hb0.trans (hbv.mono hb0.size)
              go_wp2_with fail
              refine (lawsame ⟨#[97, 98, 99]⟩ ⟨#[65, 66, 67]⟩ 4611686018427387904 _ (by decide) (by decide) (by unfold I64; omega)).mono ?_
              rintro e w1 ⟨rfl, b1⟩
              have hb1 := hbw.trans (b1.mono hbw.size)
              clear hbw b1
              go_wp2_with fail
              refine (lawsame ⟨#[97, 98, 99]⟩ ⟨#[97, 98, 100]⟩ (-9223372036854775808) _ (by decide) (by decide) (by unfold I64; omega)).mono ?_
              rintro e w2 ⟨rfl, b2⟩
              have hb2 := hb1.trans (b2.mono hb1.size)
              clear hb1 b2
              go_wp2_with fail
              refine (known_any _).mono ?_
              rintro e w3 ⟨rfl, b3⟩
              have hb3 := hb2.trans (b3.mono hb2.size)
              clear hb2 b3
              go_wp2_with fail
              go_ret
              exact ⟨rfl, hb3⟩
end Go.Proofs.Ythdefkcdpjlmiaa
