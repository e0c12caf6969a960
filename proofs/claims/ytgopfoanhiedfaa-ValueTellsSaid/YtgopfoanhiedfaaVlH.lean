/- The law's own: ints, texts, values. -/
import Derived.Test.YtgopfoanhiedfaaVlT
import Derived.Test.YtgopfoanhiedfaaVlG
namespace Go.Proofs.Ytgopfoanhiedfaa
open Go.RowKit
set_option linter.unusedVariables false
set_option linter.unusedSimpArgs false
set_option maxRecDepth 20000

theorem ints_of {v : Value} {n : Int} {ok : Bool} (h : IntOut v n ok) (w : World) : Calls Try.prog 11 #[v, .int .i64 n, .bool ok] w (Yes w) := by
  unfold IntOut at h
  cases ok
  all_goals
    go_enter Try.func11, Try.ntmps11
    go_wp2_with fail
    refine (h _).mono ?_
    rintro e w1 ⟨rfl, b1⟩
    go_wp2_with fail
    go_ret
    exact ⟨rfl, b1⟩
theorem texts_any {v : Value} {s : ByteArray} {ok : Bool} (w : World) (h : Calls Try.prog 20 #[v] w (Ans (.tuple #[.string s, .bool ok]) w)) : Calls Try.prog 12 #[v, .string s, .bool ok] w (Yes w) := by
  cases ok
  all_goals
    go_enter Try.func12, Try.ntmps12
    go_wp2_with fail
    refine h.mono ?_
    rintro e w1 ⟨rfl, b1⟩
    go_wp2_with fail
    go_ret
    exact ⟨rfl, b1⟩
theorem texts_of {v : Value} {s : ByteArray} {ok : Bool} (h : TextOut v s ok) (w : World) : Calls Try.prog 12 #[v, .string s, .bool ok] w (Yes w) := texts_any w (h w)
theorem conv_str (s : ByteArray) (w : World) : ∃ c W', (convert 9 45 (.string s)).run Try.prog w = .ok (.slice (some ⟨w.heap.size, 0, none⟩) s.size c) W' ∧ R8 W' W'.heap.size (some ⟨w.heap.size, 0, none⟩) s.size c s.data.toList ∧ Below w.heap.size w W' ∧ W'.heap.size = w.heap.size + 1 := by
  have hc : s.size ≤ grownCap w s.size 0 5 := grownCap_ge w _ _ _
  refine ⟨_, _, run_bytes_of_string w 9 45 5 s Try.underlying9 Try.underlying45 Try.underlying5, ?_, (Below.refl w.heap.size w).drew.alloc (Nat.le_refl _) _, by show (w.heap.push _).size = _; simp⟩
  refine ⟨rfl, hc, fun _ => ⟨w.heap.size, 0, rfl, by show _ < (w.heap.push _).size; simp, fun i hi => ?_⟩⟩
  rw [Nat.zero_add]
  have h1 : (bytesRow s (grownCap w s.size 0 5))[i]? = some (.int .u8 (s.data[i].toNat : Int)) := bytesRow_at s _ i hi
  show (w.drew.alloc _).cell? ⟨w.drew.heap.size, i, none⟩ = _
  rw [World.cell?_alloc_mark, h1]
  have hi' : s.data[i]? = some (s.data[i]'hi) := Array.getElem?_eq_getElem hi
  simp [List.getD, hi']
theorem bytes_back (s : ByteArray) : (⟨s.data.toList.toArray⟩ : ByteArray) = s := rfl
/-- The values that are no number, as the law lays them. -/
def noInts (p1 p2 p3 p4 : Value) : Array Value := #[.nilIface, .iface 40 (.float .f64 4609434218613702656), .iface 36 (.agg #[.int .i64 2]), .iface 41 p1, .iface 42 p2, .iface 43 (.int .u64 3), .iface 44 p3, .iface 45 p4, .iface 30 (.int .i64 1)]
theorem noInts_at (p1 p2 p3 p4 : Value) : ∀ k, k < 9 → ∃ v, (noInts p1 p2 p3 p4)[k]? = some v ∧ NoInt v := by
  intro k hk
  match k, hk with
  | 0, _ => exact ⟨_, rfl, NoInt.nil⟩
  | 1, _ => exact ⟨_, rfl, NoInt.of _ _ (by decide)⟩
  | 2, _ => exact ⟨_, rfl, NoInt.of _ _ (by decide)⟩
  | 3, _ => exact ⟨_, rfl, NoInt.of _ _ (by decide)⟩
  | 4, _ => exact ⟨_, rfl, NoInt.of _ _ (by decide)⟩
  | 5, _ => exact ⟨_, rfl, NoInt.of _ _ (by decide)⟩
  | 6, _ => exact ⟨_, rfl, NoInt.of _ _ (by decide)⟩
  | 7, _ => exact ⟨_, rfl, NoInt.of _ _ (by decide)⟩
  | 8, _ => exact ⟨_, rfl, NoInt.of _ _ (by decide)⟩
  | j + 9, h => omega
/-- The values that are no text, as the law lays them. -/
def noTexts (n r u : Int) (b : Bool) (p : Value) : Array Value := #[.nilIface, .iface 40 (.float .f64 4609434218613702656), .iface 36 (.agg #[.int .i64 2]), .iface 2 (.int .i64 n), .iface 21 (.int .i32 r), .iface 25 (.int .u32 u), .iface 4 (.bool b), .iface 22 p]
theorem noTexts_at (n r u : Int) (b : Bool) (p : Value) : ∀ k, k < 8 → ∃ v, (noTexts n r u b p)[k]? = some v ∧ NoText v := by
  intro k hk
  match k, hk with
  | 0, _ => exact ⟨_, rfl, NoText.nil⟩
  | 1, _ => exact ⟨_, rfl, NoText.of _ _ (by decide) (noerr_f64 _)⟩
  | 2, _ => exact ⟨_, rfl, NoText.of _ _ (by decide) (noerr_own _)⟩
  | 3, _ => exact ⟨_, rfl, NoText.of _ _ (by decide) (noerr_i64 _)⟩
  | 4, _ => exact ⟨_, rfl, NoText.of _ _ (by decide) (noerr_i32 _)⟩
  | 5, _ => exact ⟨_, rfl, NoText.of _ _ (by decide) (noerr_u32 _)⟩
  | 6, _ => exact ⟨_, rfl, NoText.of _ _ (by decide) (noerr_bool _)⟩
  | 7, _ => exact ⟨_, rfl, NoText.of _ _ (by decide) (noerr_strs _)⟩
  | j + 8, h => omega
set_option maxHeartbeats 4000000 in
theorem values_any (n r : Int) (u : Nat) (s : ByteArray) (b : Bool) (w : World) (hn : I64 n) (hr0 : -2147483648 ≤ r) (hr : r ≤ 2147483647) (hu : u < 4294967296) (hs : s.size ≤ 1000) :
    Calls Try.prog 6 #[.int .i64 n, .int .i32 r, .int .u32 (u : Int), .string s, .bool b] w (Yes w) := by
  obtain ⟨cY, W1, hcv, rY, bY, zY⟩ := conv_str s (((w.alloc (.cells #[.int .i64 0] 36)).alloc (.cells #[.int .i64 1] 3)).alloc (.cells #[.iface 9 (.string s)] 20))
  have b0 := ((below_alloc w (.cells #[.int .i64 0] 36)).alloc (by simp) (.cells #[.int .i64 1] 3)).alloc (by simp; omega) (.cells #[.iface 9 (.string s)] 20)
  have b1 := b0.trans (bY.mono b0.size)
  clear rY bY b0 zY
  obtain ⟨p4, hp4⟩ : ∃ p4, p4 = Value.slice (some ⟨(((w.alloc (.cells #[.int .i64 0] 36)).alloc (.cells #[.int .i64 1] 3)).alloc (.cells #[.iface 9 (.string s)] 20)).heap.size, 0, none⟩) s.size cY := ⟨_, rfl⟩
  rw [← hp4] at hcv
  clear hp4
  go_enter Try.func6, Try.ntmps6
  go_wp2_with fail
  obtain ⟨p1, hp1⟩ : ∃ p1, p1 = Value.pointer (some ⟨w.heap.size, 0, none⟩) := ⟨_, rfl⟩
  obtain ⟨p2, hp2⟩ : ∃ p2, p2 = Value.slice (some ⟨w.heap.size + 1, 0, none⟩) 1 1 := ⟨_, rfl⟩
  obtain ⟨p3, hp3⟩ : ∃ p3, p3 = Value.slice (some ⟨w.heap.size + 1 + 1, 0, none⟩) 1 1 := ⟨_, rfl⟩
  rw [← hp1, ← hp2, ← hp3]
  clear hp1 hp2 hp3 hcv
  have gB := Blk.new W1 20 (noInts p1 p2 p3 p4)
  have b2 := b1.alloc b1.size (.cells (noInts p1 p2 p3 p4) 20)
  have hN := Lib.hid (noInts_at p1 p2 p3 p4)
  change Code.wp _ _ _ _ (W1.alloc (.cells (noInts p1 p2 p3 p4) 20))
  generalize W1.alloc (.cells (noInts p1 p2 p3 p4) 20) = W2 at gB b2 ⊢
  generalize W1.heap.size = G at gB ⊢
  clear b1
  go_loopw [35] (fun i wr => ∃ k : Nat, k ≤ 9 ∧ i = .int .i64 k ∧ Below w.heap.size w wr ∧ Hid (Blk wr G 20 (noInts p1 p2 p3 p4))) (fun i _ => 9 - (intOf i).toNat)
  case atStart => exact ⟨0, by omega, rfl, b2, Lib.hid gB⟩
  case round =>
    clear b2 gB
    obtain ⟨k, hk, rfl, hb, HB⟩ := hrel
    by_cases hlt : k < 9
    · obtain ⟨v, hv, hno⟩ := hN.out k hlt
      have hc := (HB.out.cell k).trans hv
      have hG := HB.out.lt
      clear hv
      have hi := fun W => ints_of (int_no hno) W
      clear hno
      go_wp2_with fail
      refine (hi _).mono ?_
      rintro e w1 ⟨rfl, b1⟩
      have HB' := Lib.hid (HB.out.below b1 HB.out.lt)
      have hb' := hb.trans (b1.mono hb.size)
      clear HB b1 hb hc
      go_wp2_with fail
      go_roundw
      case rel => exact ⟨k + 1, by omega, by go_num, hb', HB'⟩
      case measure => simp [intOf]; omega
    · have hk9 : k = 9 := by omega
      subst hk9
      clear HB hN hlt hk
      have hN := Lib.hid (noTexts_at n r (u : Int) b (.slice (some ⟨wr.heap.size, 0, none⟩) 1 1))
      have b2 := (hb.alloc hb.size (.cells #[.string s] 9))
      have b3 := (b2.alloc b2.size (.cells (noTexts n r (u : Int) b (.slice (some ⟨wr.heap.size, 0, none⟩) 1 1)) 20))
      have gB : Blk _ (wr.heap.size + 1) _ _ := (by simpa using Blk.new (wr.alloc (.cells #[.string s] 9)) 20 (noTexts n r (u : Int) b (.slice (some ⟨wr.heap.size, 0, none⟩) 1 1)))
      go_wp2_with fail
      rw [show ((9 : Nat) : Int) = 9 from rfl]
      change Code.wp _ _ _ _ ((wr.alloc (.cells #[.string s] 9)).alloc (.cells (noTexts n r (u : Int) b (.slice (some ⟨wr.heap.size, 0, none⟩) 1 1)) 20))
      generalize noTexts n r (u : Int) b (.slice (some ⟨wr.heap.size, 0, none⟩) 1 1) = cs at gB b3 hN ⊢
      generalize (wr.alloc (.cells #[.string s] 9)).alloc (.cells cs 20) = W3 at gB b3 ⊢
      generalize wr.heap.size + 1 = G2 at gB ⊢
      clear b2 hb
      go_loopw [59] (fun i wr => ∃ k : Nat, k ≤ 8 ∧ i = .int .i64 k ∧ Below w.heap.size w wr ∧ Hid (Blk wr G2 20 cs)) (fun i _ => 8 - (intOf i).toNat)
      case atStart => exact ⟨0, by omega, rfl, b3, Lib.hid gB⟩
      case round =>
        clear b3 gB
        obtain ⟨k, hk, rfl, hb, HB⟩ := hrel
        by_cases hlt : k < 8
        · obtain ⟨v, hv, hno⟩ := hN.out k hlt
          have hc := (HB.out.cell k).trans hv
          have hG := HB.out.lt
          clear hv
          have hi := fun W => texts_of (text_no hno) W
          clear hno
          go_wp2_with fail
          refine (hi _).mono ?_
          rintro e w1 ⟨rfl, b1⟩
          have HB' := Lib.hid (HB.out.below b1 HB.out.lt)
          have hb' := hb.trans (b1.mono hb.size)
          clear HB b1 hb hc
          go_wp2_with fail
          go_roundw
          case rel => exact ⟨k + 1, by omega, by go_num, hb', HB'⟩
          case measure => simp [intOf]; omega
        · have hk9 : k = 8 := by omega
          subst hk9
          clear HB hN hlt hk
          have hb0 := hb
          clear hb
          have hB := fun W => ints_of (int_bool b) W
          cases b
          all_goals
            simp only [if_true, Bool.false_eq_true, if_false] at hB
            go_wp2_with fail
            refine (ints_of (int_i64 n) _).mono ?_
            rintro e w4 ⟨rfl, b4⟩
            have hb4 := hb0.trans (b4.mono hb0.size)
            clear b4 hb0
            go_wp2_with fail
            refine (ints_of (int_int n) _).mono ?_
            rintro e w5 ⟨rfl, b5⟩
            have hb5 := hb4.trans (b5.mono hb4.size)
            clear b5 hb4
            go_wp2_with fail
            refine (ints_of (int_i32 r hr0 hr) _).mono ?_
            rintro e w6 ⟨rfl, b6⟩
            have hb6 := hb5.trans (b6.mono hb5.size)
            clear b6 hb5
            go_wp2_with fail
            refine (ints_of (int_u32 u hu) _).mono ?_
            rintro e w7 ⟨rfl, b7⟩
            have hb7 := hb6.trans (b7.mono hb6.size)
            clear b7 hb6
            go_wp2_with fail
            refine (ref_count s _ (by omega)).mono ?_
            rintro e w8 ⟨rfl, b8⟩
            have hb8 := hb7.trans (b8.mono hb7.size)
            clear b8 hb7
            go_wp2_with fail
            refine (ints_of (int_str s (by omega)) _).mono ?_
            rintro e w9 ⟨rfl, b9⟩
            have hb9 := hb8.trans (b9.mono hb8.size)
            clear b9 hb8
            go_wp2_with fail
            refine (hB _).mono ?_
            rintro e w10 ⟨rfl, b10⟩
            have hb10 := hb9.trans (b10.mono hb9.size)
            clear b10 hb9
            go_wp2_with fail
            refine (texts_of (text_str s (by omega)) _).mono ?_
            rintro e w11 ⟨rfl, b11⟩
            have hb11 := hb10.trans (b11.mono hb10.size)
            clear b11 hb10
            obtain ⟨cZ, WZ, hcv, rZ, bZ, zZ⟩ := conv_str s w11
            have hb12 := hb11.trans (bZ.mono hb11.size)
            have rZ := text_bytes _ _ _ _ WZ rZ
            rw [bytes_back] at rZ
            clear bZ zZ hb11
            go_wp2_with fail
            refine (texts_any _ rZ).mono ?_
            rintro e w13 ⟨rfl, b13⟩
            have hb13 := hb12.trans (b13.mono hb12.size)
            clear hcv b13 hb12
            go_wp2_with fail
            refine (errno_arg _).mono ?_
            rintro e w14 ⟨rfl, b14⟩
            have hb14 := hb13.trans (b14.mono hb13.size)
            clear b14 hb13
            go_wp2_with fail
            refine (texts_of (text_err 1 _ (by decide) errno_arg) _).mono ?_
            rintro e w15 ⟨rfl, b15⟩
            have hb15 := hb14.trans (b15.mono hb14.size)
            clear b15 hb14
            go_wp2_with fail
            refine (must_str s (by omega) _).mono ?_
            rintro e w16 ⟨rfl, b16⟩
            have hb16 := hb15.trans (b16.mono hb15.size)
            clear b16 hb15
            go_wp2_with fail
            go_ret
            exact ⟨rfl, hb16⟩
end Go.Proofs.Ytgopfoanhiedfaa
