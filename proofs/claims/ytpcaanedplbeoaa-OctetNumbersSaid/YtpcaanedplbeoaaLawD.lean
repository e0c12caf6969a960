/- The walk of layer 1's closed sentence OctetNumbers. -/
import Derived.Test.YtpcaanedplbeoaaLawA
namespace Go.Proofs.Ytpcaanedplbeoaa
open Go.RowKit Go.Joins
set_option linter.unusedVariables false
set_option linter.unusedSimpArgs false

def twelve : List UInt8 := [116, 119, 101, 108, 118, 101, 32, 98, 121, 116, 101, 115]
def R12 (w : World) (B g : Nat) : Prop := R8 w B (some ⟨g, 0, none⟩) 12 12 twelve
theorem u64_shl (z : Int) : ∃ x : Nat, (IntKind.u64.wrap z) = (x : Int) ∧ x < 18446744073709551616 := by
  have h := IntKind.wrap_u64 z
  exact ⟨(IntKind.u64.wrap z).toNat, by omega, by omega⟩

def five : List Int := [4611686018427387904, -9223372036854775808, 9223372036854775807, 64, 65]
def fiveC : Array Value := (five.map (Value.int .i64)).toArray
theorem five_cell (w w' : World) (hb : Below (w.alloc (.cells fiveC 3)).heap.size (w.alloc (.cells fiveC 3)) w') (q : Nat) (hq : q < 5) :
    ∃ z, I64 z ∧ w'.cell? ⟨w.heap.size, q, none⟩ = some (.int .i64 z) := by
  have h : Blk (w.alloc (.cells fiveC 3)) w.heap.size 3 fiveC := Blk.new _ _ _
  have h2 := (h.below hb h.lt).cell q
  match q, hq with
  | 0, _ => exact ⟨4611686018427387904, by unfold I64; omega, h2⟩
  | 1, _ => exact ⟨-9223372036854775808, by unfold I64; omega, h2⟩
  | 2, _ => exact ⟨9223372036854775807, by unfold I64; omega, h2⟩
  | 3, _ => exact ⟨64, by unfold I64; omega, h2⟩
  | 4, _ => exact ⟨65, by unfold I64; omega, h2⟩
set_option maxHeartbeats 1000000 in
theorem octetNumbers_walk (w : World) : Calls Try.prog 3 #[] w (Yes w) := by
  have kc := fun (C : Array Value) (n c : Nat) => run_convert_bytes_const_at (P := Try.prog) w 22 5 C n c w.heap.size rfl Try.underlying22 Try.underlying5
  go_enter Try.func3, Try.ntmps3
  go_wp2_with fail
  have h12 := lit_r8 twelve _ 12 (12, 13) rfl rfl w
  have b1 : Below w.heap.size w (w.alloc (.cells (twelve.map bv).toArray 5 (12, 13))) := (Below.refl _ _).alloc (Nat.le_refl _) _
  have e12 : (twelve.map bv).toArray = #[Value.int IntKind.u8 116, Value.int IntKind.u8 119, Value.int IntKind.u8 101, Value.int IntKind.u8 108,
          Value.int IntKind.u8 118, Value.int IntKind.u8 101, Value.int IntKind.u8 32, Value.int IntKind.u8 98,
          Value.int IntKind.u8 121, Value.int IntKind.u8 116, Value.int IntKind.u8 101, Value.int IntKind.u8 115] := rfl
  rw [← e12]
  clear e12 kc
  generalize w.alloc (.cells (twelve.map bv).toArray 5 (12, 13)) = W at h12 b1 ⊢
  have hlow : w.heap.size ≤ W.heap.size := b1.size
  go_loopw [2, 3] (fun sz _ wr => ∃ s : Int, -2 ≤ s ∧ s ≤ 14 ∧ sz = .int .i64 s ∧ Below W.heap.size W wr) (fun sz _ _ => (14 - intOf sz).toNat)
  case atStart => exact ⟨-2, by omega, by omega, rfl, Below.refl _ _⟩
  case round =>
    obtain ⟨s, s1, s2, rfl, hbr⟩ := hrel
    by_cases hs : s < 14
    · go_wp2_with fail
      go_loopw [3] (fun a wr => ∃ i : Int, -2 ≤ i ∧ i ≤ 15 ∧ a = .int .i64 i ∧ Below W.heap.size W wr) (fun a _ => (15 - intOf a).toNat)
      case atStart => exact ⟨-2, by omega, by omega, rfl, hbr⟩
      case round =>
        obtain ⟨i, i1, i2, rfl, hbi⟩ := hrel
        by_cases hi : i < 15
        · go_wp2_with fail
          obtain ⟨x, hx, hx8⟩ := u64_shl (IntKind.u64.wrap (IntKind.u64.wrap i * 1099511627776) + 77)
          rw [hx]
          clear hx
          have hI : I64 i := by unfold I64; omega
          refine (same_any _ _ _ _ _ (h12.on hbi) (by omega) _ hx8 _ _ hI).mono ?_
          rintro e w2 ⟨rfl, b2⟩
          have hb2 := hbi.trans (b2.mono hbi.size)
          clear b2 hbi hx8
          go_wp2_with fail
          refine (same_any _ _ _ _ _ ((h12.on hb2).take_ 5 (by omega)) (by omega) 9223372036854775808 (by omega) _ _ hI).mono ?_
          rintro e w3 ⟨rfl, b3⟩
          have hb3 := hb2.trans (b3.mono hb2.size)
          clear b3 hb2
          go_wp2_with fail
          refine (same_any none 0 0 [] _ (R8.nil _ _ _ _) (by omega) 5 (by omega) _ _ hI).mono ?_
          rintro e w4 ⟨rfl, b4⟩
          have hb4 := hb3.trans (b4.mono hb3.size)
          clear b4 hb3
          go_wp2_with fail
          go_roundw
          case rel => exact ⟨i + 1, by omega, by omega, rfl, hb4⟩
          case measure => simp [intOf]; omega
        · go_wp2_with fail
          go_roundw
          case rel => exact ⟨s + 1, by omega, by omega, rfl, hbi⟩
          case measure => simp [intOf]; omega
    · go_wp2_with fail
      have e5 : fiveC = #[Value.int IntKind.i64 4611686018427387904, Value.int IntKind.i64 (-9223372036854775808),
          Value.int IntKind.i64 9223372036854775807, Value.int IntKind.i64 64, Value.int IntKind.i64 65] := rfl
      rw [← e5]
      clear e5
      have hb0 : Below W.heap.size W (wr.alloc (.cells fiveC 3)) := hbr.alloc hbr.size _
      have hcell := five_cell wr
      generalize wr.alloc (.cells fiveC 3) = V at hb0 hcell ⊢
      generalize wr.heap.size = g at hcell ⊢
      go_loopw [5, 41] (fun _ a wv => ∃ q : Nat, q ≤ 5 ∧ a = .int .i64 q ∧ Below V.heap.size V wv) (fun _ a _ => (5 - intOf a).toNat)
      case atStart => exact ⟨0, by omega, rfl, Below.refl _ _⟩
      case round =>
        obtain ⟨q, hq, rfl, hbv⟩ := hrel
        by_cases hq5 : q < 5
        · obtain ⟨z, hz, hc⟩ := hcell _ hbv q hq5
          have h2 : I64 2 := by unfold I64; omega
          have hbw := hb0.trans (hbv.mono hb0.size)
          go_wp2_with fail
          refine (same_any _ _ _ _ _ (h12.on hbw) (by omega) 9 (by omega) _ _ hz).mono ?_
          rintro e w2 ⟨rfl, b2⟩
          have hv2 := hbv.trans (b2.mono hbv.size)
          have hw2 := hbw.trans (b2.mono hbw.size)
          clear b2 hbv hbw hc
          go_wp2_with fail
          refine (same_any _ _ _ _ _ (h12.on hw2) (by omega) 9 (by omega) _ _ h2).mono ?_
          rintro e w3 ⟨rfl, b3⟩
          have hv3 := hv2.trans (b3.mono hv2.size)
          have hw3 := hw2.trans (b3.mono hw2.size)
          clear b3 hv2 hw2
          go_wp2_with fail
          refine (same_any _ _ _ _ _ (h12.on hw3) (by omega) 9 (by omega) _ _ hz).mono ?_
          rintro e w4 ⟨rfl, b4⟩
          have hv4 := hv3.trans (b4.mono hv3.size)
          clear b4 hv3 hw3
          go_wp2_with fail
          go_roundw
          case rel => exact ⟨q + 1, by omega, by go_num, hv4⟩
          case measure => simp [intOf]; omega
        · have hbw := b1.trans ((hb0.trans (hbv.mono hb0.size)).mono hlow)
          go_wp2_with fail
          refine (known_any _).mono ?_
          rintro e w4 ⟨rfl, b4⟩
          have hb4 := hbw.trans (b4.mono hbw.size)
          go_wp2
          go_ret
          exact ⟨rfl, hb4⟩
end Go.Proofs.Ytpcaanedplbeoaa
