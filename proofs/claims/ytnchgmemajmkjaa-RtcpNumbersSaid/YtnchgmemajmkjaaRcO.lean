/- Contracts: limelightref6.body, one. -/
import Derived.Test.YtnchgmemajmkjaaRcB4
import Derived.Test.YtnchgmemajmkjaaRcB5
namespace Go.Proofs.Ytnchgmemajmkjaa
open Go.RowKit
set_option linter.unusedVariables false
set_option linter.unusedSimpArgs false
set_option maxRecDepth 20000

theorem Rep.err_zero {r : Rep} (h : r.err = 0) : (1 ≤ r.kind ∧ r.kind ≤ 6) ∧ r.fits = true ∧ r.bare = true := by
  by_cases hk : r.kind < 1 ∨ 6 < r.kind
  · rw [Rep.err_kind hk] at h; omega
  · rw [Rep.err_in (by omega)] at h
    refine ⟨by omega, ?_, ?_⟩
    · cases hf : r.fits with
      | true => rfl
      | false => rw [if_pos hf] at h; omega
    · cases hf : r.bare with
      | true => rfl
      | false =>
        split at h
        · omega
        · first
          | (exfalso; omega)
          | (rw [if_pos hf] at h; omega)
theorem Rep.fits_12 {r : Rep} (hk : r.kind = 1 ∨ r.kind = 2) (h : r.fits = true) : tupsOk r.tups = true := by
  unfold Rep.fits at h
  rwa [if_pos hk] at h
theorem Rep.fits_4 {r : Rep} (hk : r.kind = 4) (h : r.fits = true) : r.abouts.length = r.nums.length ∧ 1 ≤ r.abouts.length ∧ r.abouts.length ≤ 16 ∧ ∀ n ∈ r.nums, 0 ≤ n ∧ n ≤ 255 := by
  unfold Rep.fits at h
  rw [if_neg (by omega), if_pos hk] at h
  simp only [Bool.and_eq_true, decide_eq_true_eq, List.all_eq_true] at h
  exact ⟨h.1, h.2.1, h.2.2.1, fun n hn => h.2.2.2 n hn⟩
theorem Rep.fits_5 {r : Rep} (hk : r.kind = 5) (h : r.fits = true) : r.abouts.length ≤ 16 ∧ dnN r.rate 18 = r.rate := by
  unfold Rep.fits at h
  rw [if_neg (by omega), if_neg (by omega), if_pos hk] at h
  simpa only [Bool.and_eq_true, decide_eq_true_eq] using h
theorem Rep.fits_6 {r : Rep} (hk : r.kind = 6) (h : r.fits = true) : 192 ≤ r.ty ∧ r.ty ≤ 223 ∧ 0 ≤ r.count ∧ r.count ≤ 31 ∧ r.body.length % 4 = 0 ∧ r.body.length ≤ 262140 ∧ oursTC r.ty r.count = false := by
  unfold Rep.fits at h
  rw [if_neg (by omega), if_neg (by omega), if_neg (by omega), if_pos hk] at h
  simpa only [Bool.and_eq_true, decide_eq_true_eq, Bool.not_eq_true'] using h
theorem Rep.tc_in {r : Rep} (h : r.err = 0) : 192 ≤ r.tc.1 ∧ r.tc.1 ≤ 223 ∧ 0 ≤ r.tc.2 ∧ r.tc.2 ≤ 31 := by
  obtain ⟨hk, hf, _⟩ := Rep.err_zero h
  unfold Rep.tc
  split
  · simp only; omega
  · split
    · simp only; omega
    · split
      · simp only; omega
      · split
        · simp only; omega
        · have := Rep.fits_6 (by omega) hf
          simp only; omega
theorem Rep.tail_le {r : Rep} (h : r.err = 0) : r.tail.length ≤ 262140 := by
  obtain ⟨hk, hf, _⟩ := Rep.err_zero h
  unfold Rep.tail
  split
  · rename_i h1
    have h2 := Rep.fits_12 h1 hf
    unfold tupsOk at h2
    rw [Bool.and_eq_true, decide_eq_true_eq] at h2
    simp only [List.length_append, be_len, flat_length (k := 8) Tup.bytes_len]
    omega
  · split
    · simp [be_len]
    · split
      · rename_i h1
        have h2 := Rep.fits_4 h1 hf
        simp only [List.length_append, be_len]
        rw [flat_length (k := 8) (fun x => by simp [be_len]), List.length_zip]
        omega
      · split
        · rename_i h1
          have h2 := Rep.fits_5 h1 hf
          simp only [List.length_append, be_len, List.length_cons, List.length_nil]
          rw [flat_length (k := 4) (fun x => be_len 4 x)]
          omega
        · exact (Rep.fits_6 (by omega) hf).2.2.2.2.2.1
theorem ref6_body (x : Rv) (w : World) (hx : IsR w w.heap.size x) (he : x.r.err = 0) : Calls Try.prog 53 #[x.val] w (BodyOut w x.r) := by
  obtain ⟨hk, hf, _⟩ := Rep.err_zero he
  by_cases h1 : x.r.kind = 1
  · exact body_1 x w hx h1 (Rep.fits_12 (.inl h1) hf)
  by_cases h2 : x.r.kind = 2
  · exact body_2 x w hx h2 (Rep.fits_12 (.inr h2) hf)
  by_cases h3 : x.r.kind = 3
  · exact body_3 x w hx h3
  by_cases h4 : x.r.kind = 4
  · have := Rep.fits_4 h4 hf
    exact body_4 x w hx h4 this.1 this.2.2.1 this.2.2.2
  by_cases h5 : x.r.kind = 5
  · exact body_5 x w hx h5 (Rep.fits_5 h5 hf).1
  exact body_6 x w hx (by omega)
theorem or64_128 (c : Int) (h0 : 0 ≤ c) (h1 : c ≤ 31) : bits .or .i64 128 c = 128 + c := by
  obtain ⟨n, rfl⟩ : ∃ n : Nat, c = (n : Int) := ⟨c.toNat, by omega⟩
  have h := bits_join .i64 63 (by decide) (fun n h0 h1 => by rw [show (2 : Int) ^ 63 = 9223372036854775808 by decide] at h1; rw [IntKind.wrap_i64]; omega) 7 128 (n : Int) (by omega) (by decide) (by decide) (by omega) (by rw [show (2 : Int) ^ 7 = 128 by decide]; omega) (by rw [show (2 : Int) ^ 63 = 9223372036854775808 by decide]; omega)
  exact h
theorem head_put (a b : UInt8) (x y : Int) (hx : x = (a.toNat : Int)) (hy : y = (b.toNat : Int)) (V : World) (g : Nat) (hg : g = V.heap.size) (k : Int) (n : Nat) (hk : k = (n : Int)) (hn : n < 18446744073709551616) :
    Calls Try.prog 54 #[.slice (some ⟨g, 0, none⟩) 2 2, .int .u64 k, .int .i64 2] (V.alloc (.cells #[.int .u8 x, .int .u8 y] 5)) (OwnOut (V.alloc (.cells #[.int .u8 x, .int .u8 y] 5)) ([a, b] ++ be n 2)) := by
  subst hx hy hk
  exact ref_put2 _ 2 2 [a, b] _ (lit_r8_at [a, b] _ 2 g (0, 0) V hg rfl rfl) (by omega) n hn
set_option maxHeartbeats 1000000 in
theorem ref6_one (x : Rv) (w : World) (hx : IsR w w.heap.size x) (he : x.r.err = 0) : Calls Try.prog 33 #[x.val] w (OwnOut w x.r.one) := by
  have hbd := fun W h => ref6_body x W h he
  have htc := Rep.tc_in he
  have htl := Rep.tail_le he
  have hone : x.r.one = [UInt8.ofNat (128 + x.r.tc.2.toNat), UInt8.ofNat x.r.tc.1.toNat] ++ (be (x.r.tail.length / 4) 2 ++ x.r.tail) := rfl
  rw [hone]
  unfold BodyOut at hbd
  clear hone he
  generalize x.r.tail = T at *
  generalize x.r.tc.1 = ty at *
  generalize x.r.tc.2 = cn at *
  obtain ⟨⟨kind, src, about, tups, abouts, nums, rate, ty', count, body⟩, At, ct, Aa, ca, An, cn', Ab, cb⟩ := x
  simp only [Rv.val, Rv.cells] at hbd ⊢
  have hb : Below w.heap.size w (w.alloc (.cells #[.int .i64 kind, .int .u32 (src : Int), .int .u32 (about : Int), .slice At tups.length ct, .slice Aa abouts.length ca, .slice An nums.length cn', .int .u64 (rate : Int), .int .i64 ty', .int .i64 count, .slice Ab body.length cb] 33)) := (Below.refl _ w).alloc (Nat.le_refl _) _
  have hx := hx.on hb
  obtain ⟨ty, rfl⟩ : ∃ n : Nat, ty = (n : Int) := ⟨ty.toNat, by omega⟩
  obtain ⟨cn, rfl⟩ : ∃ n : Nat, cn = (n : Int) := ⟨cn.toNat, by omega⟩
  simp only [Int.toNat_natCast] at *
  have hor := Lib.hid (or64_128 cn (by omega) (by omega))
  go_enter Try.func33, Try.ntmps33
  go_upto_region 1 with (fail)
  have hbd1 := hbd _ hx
  clear hbd hx
  obtain ⟨y0, y1, y2, y3, y4, y5, y6, y7, y8, y9⟩ := blk10 (Blk.new w 33 #[.int .i64 kind, .int .u32 (src : Int), .int .u32 (about : Int), .slice At tups.length ct, .slice Aa abouts.length ca, .slice An nums.length cn', .int .u64 (rate : Int), .int .i64 ty', .int .i64 count, .slice Ab body.length cb])
  generalize (w.alloc (.cells #[.int .i64 kind, .int .u32 (src : Int), .int .u32 (about : Int), .slice At tups.length ct, .slice Aa abouts.length ca, .slice An nums.length cn', .int .u64 (rate : Int), .int .i64 ty', .int .i64 count, .slice Ab body.length cb] 33)) = V at *
  go_wp2_with fail
  ((with_reducible refine hbd1.mono ?_); rintro e w1 ⟨A1, n1, c1, rfl, r1, b1⟩)
  have hn1 : n1 ≤ 262140 := by rw [← r1.1]; exact htl
  have HN := Lib.hid r1.1
  have b2 := hb.trans (b1.mono hb.size)
  clear hbd1 y0 y1 y2 y3 y4 y5 y6 y7 y8 y9 hb b1
  go_wp2_with fail
  have hx8 : bits .or .i64 128 (cn : Int) % 256 = ((UInt8.ofNat (128 + cn)).toNat : Int) := by
    rw [hor.out, UInt8.toNat_ofNat']
    omega
  have hy8 : (ty : Int) = ((UInt8.ofNat ty).toNat : Int) := by
    rw [UInt8.toNat_ofNat']
    omega
  ((with_reducible refine (head_put (UInt8.ofNat (128 + cn)) (UInt8.ofNat ty) _ _ hx8 hy8 w1 _ rfl _ (n1 / 4) (by omega) (by omega)).mono ?_); rintro e w2 ⟨v2, rfl, o2, b3⟩)
  have r2 := r1.on (((Below.refl _ w1).alloc (Nat.le_refl _) (.cells #[.int .u8 (bits .or .i64 128 (cn : Int) % 256), .int .u8 (ty : Int)] 5)).trans (b3.mono (by simp)))
  have b4 := b2.trans ((((Below.refl _ w1).alloc (Nat.le_refl _) (.cells #[.int .u8 (bits .or .i64 128 (cn : Int) % 256), .int .u8 (ty : Int)] 5)).trans (b3.mono (by simp))).mono b2.size)
  have o2 := own8_base o2 (b' := w.heap.size) (by have := b2.size; simp; omega)
  generalize hL : [UInt8.ofNat (128 + cn), UInt8.ofNat ty] ++ be (n1 / 4) 2 = L at o2
  have hll : L.length = 4 := by rw [← hL]; simp [be_len]
  have HL := Lib.hid hL
  have hbb : L.length + n1 ≤ 140737488355328 := by omega
  have HBB := Lib.hid hbb
  clear hbb hll hL b3 r1 b2 hx8 hy8
  go_wp2_with (at_builtin; go_loud ((with_reducible refine wpList_append8 rfl (.tmp 22) (.tmp 23) rfl rfl w.heap.size _ _ (by with_unfolding_all rfl) o2 w2.heap.size A1 n1 c1 _ (by with_unfolding_all rfl) r2 HBB.out b4.size ?_); intro v7 w7 ha7))
  have b7 := below_grown b4 b4.size ha7.2.1 (fun k hk => (World.ownsRow.lt o2 k hk).1)
  have o7 := ha7.1
  have e : L ++ T = [UInt8.ofNat (128 + cn), UInt8.ofNat ty] ++ (be (T.length / 4) 2 ++ T) := by rw [← HL.out, HN.out, List.append_assoc]
  rw [e] at o7
  clear ha7 o2 r2 b4 e
  go_ret
  exact ⟨_, rfl, o7, b7⟩
end Go.Proofs.Ytnchgmemajmkjaa
