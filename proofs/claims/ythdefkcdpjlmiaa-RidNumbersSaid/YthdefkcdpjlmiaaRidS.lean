/- The walk of layer 2's law RidSame. -/
import Derived.Test.YthdefkcdpjlmiaaRidQ
namespace Go.Proofs.Ythdefkcdpjlmiaa
open Go.RowKit
set_option linter.unusedVariables false
set_option linter.unusedSimpArgs false

/-- Texts whose runes are the same but for great letters. -/
structure Kin (R L : List Nat) : Prop where
  low : R.map low = L.map low
  rune : ∀ r ∈ R, Rn r
theorem Kin.more {R L L' : List Nat} {r r' : Nat} (h : Kin R L) (e : L' = L ++ [r]) (h1 : Rn r') (h2 : Proofs.Ythdefkcdpjlmiaa.low r' = Proofs.Ythdefkcdpjlmiaa.low r) : Kin (R ++ [r']) L' := by
  subst e
  refine ⟨by rw [List.map_append, List.map_append, h.low]; simp [h2], fun x hx => ?_⟩
  rcases List.mem_append.1 hx with hx | hx
  · exact h.rune x hx
  · rw [List.mem_singleton.1 hx]
    exact h1
def mkT (R : List Nat) : ByteArray := ⟨(enc R).toArray⟩
theorem rn_mk {R L : List Nat} (h : Kin R L) : rn (mkT R).data.toList = R := by
  show rn (enc R).toArray.toList = R
  rw [List.toList_toArray, rn_enc R h.rune]
theorem Kin.fold {R : List Nat} {s : ByteArray} (h : Kin R (rn s.data.toList)) : foldB (mkT R) = foldB s := by
  rw [foldB, foldB]
  unfold Proofs.Ythdefkcdpjlmiaa.fold
  rw [rn_mk h, h.low]
theorem Kin.cnt {R : List Nat} {s : ByteArray} (h : Kin R (rn s.data.toList)) : Proofs.Ythdefkcdpjlmiaa.cnt (mkT R) = Proofs.Ythdefkcdpjlmiaa.cnt s := by
  have := congrArg List.length h.low
  simp only [List.length_map] at this
  rw [Proofs.Ythdefkcdpjlmiaa.cnt, rn_mk h, this, Proofs.Ythdefkcdpjlmiaa.cnt]
theorem all_low (L : List Nat) : L.all fit = (L.map low).all fit := by
  rw [List.all_map]
  apply List.all_congr rfl
  intro r
  exact (fit_low r).symm
theorem Kin.right {R : List Nat} {s : ByteArray} (h : Kin R (rn s.data.toList)) : Proofs.Ythdefkcdpjlmiaa.right (mkT R) = Proofs.Ythdefkcdpjlmiaa.right s := by
  rw [Proofs.Ythdefkcdpjlmiaa.right, Proofs.Ythdefkcdpjlmiaa.right, h.cnt, rn_mk h, all_low R, h.low, ← all_low]
theorem cat_rune (R : List Nat) (r : Nat) (W : World) (x : Int) (hx : x = (r : Int)) (hs : (enc R).length ≤ 1000000) : (Op.stringOp .add (mkT R) (Utf8.encode x)).run Try.prog W = .ok (.string (mkT (R ++ [r]))) W := by
  have hel := encodeRune_len (r : Int)
  have h := run_string_add_sum (P := Try.prog) (w := W) ⟨(enc R).toArray⟩ ⟨(Lib.encodeRune (r : Int)).toArray⟩ (by rw [size_mk, size_mk]; omega)
  rw [cat_list] at h
  rw [hx, encode_eq, mkT, mkT, enc_append]
  simpa [enc] using h
set_option maxHeartbeats 2000000 in
theorem ridSame_walk (a b : ByteArray) (n : Int) (w : World) (ha : a.size ≤ 1048576) (hb : b.size ≤ 1048576) (hn : (Lit.int .u32 n).wf = true) : Calls Try.prog 6 #[.string a, .string b, .int .u32 n] w (Yes w) := by
  go_enter Try.func6, Try.ntmps6
  go_upto_if 12 with (fail)
  go_cut [0] from 10 to 14 (fun s0 wc => ∃ X : ByteArray, X.size ≤ 40 ∧ s0 = .string X ∧ wc = w)
  case first =>
    have sz := cut_size a 40
    by_cases ga : 40 < a.size
    · go_wp2_with fail
      go_meet
      case rel => exact ⟨_, sz, rfl, rfl⟩
    · go_wp2_with fail
      go_meet
      case rel => exact ⟨a, by omega, rfl, rfl⟩
  case rest =>
    obtain ⟨X, hz, rfl, rfl⟩ := hcut
    go_wp2_with fail
    go_loopw [7, 8, 9] (fun c _ _ wr => ∃ (k pos : Nat) (R : List Nat), c = .string (mkT R) ∧ At X k pos ∧ Kin R ((rn X.data.toList).take k) ∧ wr = wc.iter X pos) (fun _ _ _ wr => X.size - wr.iterPos wc.heap.size)
    case atStart => exact ⟨0, 0, [], rfl, At.zero X, ⟨by simp, by simp⟩, rfl⟩
    case round =>
      obtain ⟨k, pos, R, rfl, hat, hkin, rfl⟩ := hrel
      by_cases hp : pos < X.size
      · have hnx : ∀ ty, (Instr.next (.pointer (some ⟨wc.heap.size, 0, none⟩)) true ty).run Try.prog (wc.iter X pos) = _ := fun ty => run_next_any wc X pos ty hp
        have hlt := hat.lt hp
        have hwd := hat.wide hp
        have hmo := hat.more hp
        have hbig := hat.big hp
        have hru := hat.rune hp
        have hcx := cnt_le X
        have hRk : R.length = k := by
          have := congrArg List.length hkin.low
          rw [List.length_map, List.length_map, List.length_take] at this
          unfold cnt at hlt
          omega
        have hen := enc_len R
        have hhere := fun (r' : Nat) h1 h2 => hkin.more (r' := r') (hat.here hp) h1 h2
        revert hhere hmo hwd hnx hbig hru
        generalize (Utf8.decode X pos).1 = r
        generalize (Utf8.decode X pos).2 = d
        intro hnx hwd hmo hbig hru hhere
        by_cases h1 : 97 ≤ r ∧ r ≤ 122
        · have h2 : (97 : Int) ≤ r := by omega
          have h3 : (r : Int) ≤ 122 := by omega
          have hA := fun W => cat_rune R r W (r : Int) rfl (by omega)
          have hA' := fun W => cat_rune R (r - 32) W ((r : Int) - 97 + 65) (by omega) (by omega)
          have hk := fun _ : Unit => hhere r hru rfl
          have hk' := fun _ : Unit => hhere (r - 32) (by unfold Rn; omega) (by unfold low; rw [if_pos (by omega), if_neg (by omega)]; omega)
          clear hhere
          go_wp2_with fail
          all_goals
            go_roundw
            case rel => first | exact ⟨k + 1, _, _, rfl, hmo, hk' (), rfl⟩ | exact ⟨k + 1, _, _, rfl, hmo, hk (), rfl⟩
            case measure =>
              simp only [World.iterPos_iter]
              omega
        · have hA := fun W => cat_rune R r W (r : Int) rfl (by omega)
          have hk := fun _ : Unit => hhere r hru rfl
          clear hhere
          have h4 : (r : Int) < 97 ∨ 122 < (r : Int) := by omega
          clear h1
          go_wp2_with fail
          all_goals
            go_roundw
            case rel => exact ⟨k + 1, _, _, rfl, hmo, hk (), rfl⟩
            case measure =>
              simp only [World.iterPos_iter]
              omega
      · have hnx : ∀ ty, (Instr.next (.pointer (some ⟨wc.heap.size, 0, none⟩)) true ty).run Try.prog (wc.iter X pos) = _ := fun ty => run_next_end wc X pos ty hp
        have hib := iter_below wc X pos
        have hk := hat.done hp
        subst hk
        rw [List.take_of_length_le (by unfold cnt; omega)] at hkin
        have hcx := cnt_le X
        have hsC : (mkT R).size ≤ 1000 := by
          have h1 := enc_len R
          have h2 := congrArg List.length hkin.low
          rw [List.length_map, List.length_map] at h2
          rw [mkT, size_mk]
          unfold cnt at hcx
          omega
        have sAC : ∀ W, Calls Try.prog 13 #[.string X, .string (mkT R)] W (Ans (.bool true) W) := fun W => by
          have h := same_any X (mkT R) W (by omega) (by omega)
          rwa [hkin.fold, beq_self_eq_true] at h
        have sCA : ∀ W, Calls Try.prog 13 #[.string (mkT R), .string X] W (Ans (.bool true) W) := fun W => by
          have h := same_any (mkT R) X W (by omega) (by omega)
          rwa [hkin.fold, beq_self_eq_true] at h
        have sBC : ∀ W, Calls Try.prog 13 #[.string b, .string (mkT R)] W (Ans (.bool ((foldB X).toList == (foldB b).toList)) W) := fun W => by
          have h := same_any b (mkT R) W (by omega) (by omega)
          rwa [hkin.fold, BEq.comm] at h
        have cC : ∀ W, Calls Try.prog 11 #[.string (mkT R)] W (Ans (.int .i64 (cnt X : Int)) W) := fun W => by
          have h := count_any (mkT R) W (by omega)
          rwa [hkin.cnt] at h
        have rC : ∀ W, Calls Try.prog 12 #[.string (mkT R)] W (Ans (.bool (right X)) W) := fun W => by
          have h := right_any (mkT R) W (by omega)
          rwa [hkin.right] at h
        clear hkin
        generalize mkT R = C at *
        go_wp2_with fail
        refine (sAC _).mono ?_
        rintro e w1 ⟨rfl, b1⟩
        have b1' := hib.trans (b1.mono hib.size)
        clear hib b1
        go_wp2_with fail
        refine (sCA _).mono ?_
        rintro e w2 ⟨rfl, b2⟩
        have b2' := b1'.trans (b2.mono b1'.size)
        clear b1' b2
        go_wp2_with fail
        refine (same_any X b _ (by omega) (by omega)).mono ?_
        rintro e w3 ⟨rfl, b3⟩
        have b3' := b2'.trans (b3.mono b2'.size)
        clear b2' b3
        go_wp2_with fail
        refine (sBC _).mono ?_
        rintro e w4 ⟨rfl, b4⟩
        have b4' := b3'.trans (b4.mono b3'.size)
        clear b3' b4
        go_wp2_with fail
        refine (count_any X _ (by omega)).mono ?_
        rintro e w5 ⟨rfl, b5⟩
        have b5' := b4'.trans (b5.mono b4'.size)
        clear b4' b5
        go_wp2_with fail
        refine (cC _).mono ?_
        rintro e w6 ⟨rfl, b6⟩
        have b6' := b5'.trans (b6.mono b5'.size)
        clear b5' b6
        go_wp2_with fail
        refine (right_any X _ (by omega)).mono ?_
        rintro e w7 ⟨rfl, b7⟩
        have b7' := b6'.trans (b7.mono b6'.size)
        clear b6' b7
        go_wp2_with fail
        refine (rC _).mono ?_
        rintro e w8 ⟨rfl, b8⟩
        have b8' := b7'.trans (b8.mono b7'.size)
        clear b7' b8
        go_wp2_with fail
        refine (known_any _).mono ?_
        rintro e w9 ⟨rfl, b9⟩
        have b9' := b8'.trans (b9.mono b8'.size)
        clear b8' b9
        go_wp2_with fail
        go_ret
        exact ⟨rfl, b9'⟩
end Go.Proofs.Ythdefkcdpjlmiaa
