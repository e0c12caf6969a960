/- PacePlays' walk. -/
import Derived.Test.YtdjopbhjfnakdaaPqY
import Derived.Test.YtdjopbhjfnakdaaPqK
import Derived.Test.YtdjopbhjfnakdaaCWithinE
namespace Go.Proofs.Ytdjopbhjfnakdaa
open Go.RowKit
set_option linter.unusedVariables false
set_option linter.unusedSimpArgs false
set_option maxRecDepth 20000

theorem one_ra_at (w : World) (g : Nat) (hg : g = w.heap.size) (x : Ask) (hx : x.In) : RA (w.alloc (.cells #[.int .i64 x.kind, .int .i64 x.n] 24)) (w.heap.size + 1) (some ⟨g, 0, none⟩) 1 1 [x] := by
  subst hg
  exact one_ra w x hx
set_option maxHeartbeats 4000000 in
theorem pacePlays_walk (a b : Int) (A : Option Addr) (n c : Nat) (L : List Ask) (w : World) (ha : I64 a) (hb : I64 b) (h : RA w w.heap.size A n c L) (hn : n ≤ 8796093022200) :
    Calls Try.prog 4 #[.int .i64 a, .int .i64 b, .slice A n c] w (Yes w) := by
  have HRA := Lib.hid h
  have hin := Lib.hid h.2.1
  have hlen := Lib.hid h.1
  have HI := Lib.hid (⟨ha, hb⟩ : I64 a ∧ I64 b)
  clear h ha hb
  go_enter Try.func4, Try.ntmps4
  go_wp2_with fail
  go_loopw [7, 8, 9, 12] (fun v _ _ i wr => ∃ (q : Nat) (S : List Ask) (vv : Value), v = vv ∧ q ≤ n ∧ i = .int .i64 (q : Int) ∧ Hid (OwnA wr w.heap.size vv S ∧ (∀ x ∈ S, x.In) ∧ S.length = q ∧ Below w.heap.size w wr)) (fun _ _ _ i _ => n - (intOf i).toNat)
  case atStart => exact ⟨0, [], _, rfl, by omega, rfl, Lib.hid ⟨OwnA.nil _ _, by simp, rfl, Below.refl _ _⟩⟩
  case round =>
    obtain ⟨q, S, vv, rfl, hqn, rfl, HS⟩ := hrel
    by_cases hlt : q < n
    · have g1 : decide ((q : Int) < (n : Int)) = true := by simp; omega
      have g3 : (q : Int) < (n : Int) := by omega
      obtain ⟨hown, hSi, hSl, hbw⟩ := HS.out
      obtain ⟨AS, cS, hv, _, _⟩ := hown.ra hSi
      rw [hSl] at hv
      subst hv
      have hql : q < L.length := by have := hlen.out; omega
      obtain ⟨bA, off, rfl, hbA, c0, c1⟩ := (HRA.out.below hbw).at (q := q) hql
      obtain ⟨hk64, hn64⟩ := hin.out L[q] (List.getElem_mem hql)
      generalize L[q].kind = kd at c0 hk64
      generalize L[q].n = nn at c1 hn64
      obtain ⟨k, hk0, hk5, _, hwi⟩ := within_ex kd 0 5 hk64 (by omega) (by omega) (by omega)
      have HW := Lib.hid hwi
      have hm1 := bits_i64 .and nn 1048575
      have HK := Lib.hid (⟨by unfold I64; omega, hn64, hm1⟩ : I64 k ∧ I64 nn ∧ I64 (bits .and .i64 nn 1048575))
      have hbs := hbw.size
      have HL := Lib.hid (show S.length + 1 ≤ 8796093022208 by omega)
      have HSI := Lib.hid (⟨hSi, hSl⟩ : _ ∧ _)
      clear hql hm1 hk64 hn64 hwi hSi hSl HS
      go_wp2_with fail
      refine (HW.out _).mono ?_
      rintro e w' ⟨rfl, hw'⟩
      rw [hw']
      clear hw' w'
      by_cases hk : 3 < k
      · have s1 : decide ((3 : Int) < k) = true := by simpa using hk
        have b1 := belowA wr (.cells #[.int .i64 k, .int .i64 (bits .and .i64 nn 1048575)] 24)
        have b2 := b1.trans ((belowA (wr.alloc (.cells #[.int .i64 k, .int .i64 (bits .and .i64 nn 1048575)] 24)) (.cells #[.int .i64 k, .int .i64 (bits .and .i64 nn 1048575)] 24)).mono b1.size)
        have oA := hown.on b2
        have rA := one_ra_at (wr.alloc (.cells #[.int .i64 k, .int .i64 (bits .and .i64 nn 1048575)] 24)) (wr.heap.size + 1) (by simp) ⟨k, bits .and .i64 nn 1048575⟩ ⟨HK.out.1, HK.out.2.2⟩
        have bA9 := hbw.trans (b2.mono hbs)
        have sA := bA9.size
        clear hown hbw hbs b1 b2
        go_wp2_with (at_builtin; go_loud (with_reducible refine wpList_appendA rfl (.tmp 30) (.tmp 32) rfl rfl w.heap.size (.slice AS q cS) S (by with_unfolding_all rfl) oA _ _ 1 1 [⟨k, bits .and .i64 nn 1048575⟩] (by with_unfolding_all rfl) rA HL.out sA ?_); intro v9 w9 ha9)
        have b9 := below_grown bA9 sA ha9.2 (fun kk hkk => (World.ownsRow.lt oA kk hkk).1)
        have o9 := ha9.1
        have HR := Lib.hid (show OwnA w9 w.heap.size v9 (S ++ [⟨k, bits .and .i64 nn 1048575⟩]) ∧ (∀ x ∈ S ++ [⟨k, bits .and .i64 nn 1048575⟩], x.In) ∧ (S ++ [(⟨k, bits .and .i64 nn 1048575⟩ : Ask)]).length = q + 1 ∧ Below w.heap.size w w9 from ⟨o9, fun x hx => by
          rcases List.mem_append.1 hx with h1 | h1
          · exact HSI.out.1 x h1
          · rw [List.mem_singleton] at h1
            subst h1
            exact ⟨HK.out.1, HK.out.2.2⟩, by rw [List.length_append, HSI.out.2]; rfl, b9⟩)
        clear ha9 oA rA bA9 o9 b9 sA c0 c1
        go_roundw
        case rel => exact ⟨q + 1, _, _, rfl, by omega, by go_num, HR⟩
        case measure => simp [intOf]; omega
      · have s1 : decide ((3 : Int) < k) = false := by simpa using hk
        have b1 := belowA wr (.cells #[.int .i64 k, .int .i64 (nn)] 24)
        have b2 := b1.trans ((belowA (wr.alloc (.cells #[.int .i64 k, .int .i64 (nn)] 24)) (.cells #[.int .i64 k, .int .i64 (nn)] 24)).mono b1.size)
        have oA := hown.on b2
        have rA := one_ra_at (wr.alloc (.cells #[.int .i64 k, .int .i64 (nn)] 24)) (wr.heap.size + 1) (by simp) ⟨k, nn⟩ ⟨HK.out.1, HK.out.2.1⟩
        have bA9 := hbw.trans (b2.mono hbs)
        have sA := bA9.size
        clear hown hbw hbs b1 b2
        go_wp2_with (at_builtin; go_loud (with_reducible refine wpList_appendA rfl (.tmp 30) (.tmp 32) rfl rfl w.heap.size (.slice AS q cS) S (by with_unfolding_all rfl) oA _ _ 1 1 [⟨k, nn⟩] (by with_unfolding_all rfl) rA HL.out sA ?_); intro v9 w9 ha9)
        have b9 := below_grown bA9 sA ha9.2 (fun kk hkk => (World.ownsRow.lt oA kk hkk).1)
        have o9 := ha9.1
        have HR := Lib.hid (show OwnA w9 w.heap.size v9 (S ++ [⟨k, nn⟩]) ∧ (∀ x ∈ S ++ [⟨k, nn⟩], x.In) ∧ (S ++ [(⟨k, nn⟩ : Ask)]).length = q + 1 ∧ Below w.heap.size w w9 from ⟨o9, fun x hx => by
          rcases List.mem_append.1 hx with h1 | h1
          · exact HSI.out.1 x h1
          · rw [List.mem_singleton] at h1
            subst h1
            exact ⟨HK.out.1, HK.out.2.1⟩, by rw [List.length_append, HSI.out.2]; rfl, b9⟩)
        clear ha9 oA rA bA9 o9 b9 sA c0 c1
        go_roundw
        case rel => exact ⟨q + 1, _, _, rfl, by omega, by go_num, HR⟩
        case measure => simp [intOf]; omega
    · have g1 : decide ((q : Int) < (n : Int)) = false := by simp; omega
      have hqn' : q = n := by omega
      subst hqn'
      obtain ⟨hown, hSi, hSl, hbw⟩ := HS.out
      obtain ⟨AS, cS, hv, hra, _⟩ := hown.ra hSi
      rw [hSl] at hv hra
      subst hv
      have HR := Lib.hid (⟨hra, hbw⟩ : _ ∧ _)
      have i6 : I64 6000 := by unfold I64; omega
      have I6 := Lib.hid i6
      clear hown hSi hSl hra HS i6
      go_wp2_with fail
      ((with_reducible refine (play_any _ _ AS q cS S _ (bits_i64 _ _ _) (bits_i64 _ _ _) HR.out.1 (by omega)).mono ?_); rintro e w1 ⟨rfl, d1⟩)
      have b1 := hbw.trans (d1.mono hbw.size)
      have r1 := HR.out.1.on d1
      clear hbw d1
      go_wp2_with fail
      ((with_reducible refine (play_any a b A q c L w1 HI.out.1 HI.out.2 (HRA.out.on b1) (by omega)).mono ?_); rintro e w2 ⟨rfl, d2⟩)
      have b2 := b1.trans (d2.mono b1.size)
      have r2 := r1.on d2
      clear b1 r1 d2
      go_wp2_with fail
      ((with_reducible refine (play_any _ _ AS q cS S _ HI.out.1 I6.out r2 (by omega)).mono ?_); rintro e w3 ⟨rfl, d3⟩)
      have b3 := b2.trans (d3.mono b2.size)
      clear b2 r2 d3
      go_wp2_with fail
      ((with_reducible refine (known11_any _).mono ?_); rintro e w4 ⟨rfl, d4⟩)
      have b4 := b3.trans (d4.mono b3.size)
      clear b3 d4
      go_wp2_with fail
      go_ret
      exact ⟨rfl, b4⟩
end Go.Proofs.Ytdjopbhjfnakdaa
