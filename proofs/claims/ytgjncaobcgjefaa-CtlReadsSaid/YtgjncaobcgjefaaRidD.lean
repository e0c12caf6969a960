/- Contracts of package rid and of its book: Fold, Same, for texts whose small letters find room. -/
import Derived.Test.YtgjncaobcgjefaaRidB
import Derived.Test.YtgjncaobcgjefaaShelf
import Derived.WalkSpells
import Derived.Lib.SmallJoins
namespace Go.Proofs.Ytgjncaobcgjefaa
open Go.RowKit
set_option linter.unusedVariables false
set_option linter.unusedSimpArgs false
set_option maxRecDepth 20000

theorem cat_list (a b : List UInt8) : (⟨a.toArray⟩ : ByteArray) ++ ⟨b.toArray⟩ = ⟨(a ++ b).toArray⟩ := by
  apply ByteArray.ext
  rw [ByteArray.data_append]
  simp
theorem size_mk (l : List UInt8) : (⟨l.toArray⟩ : ByteArray).size = l.length := by
  show l.toArray.size = _
  simp
theorem enc_take {l : List Nat} {k r : Nat} (e : l.take (k + 1) = l.take k ++ [r]) : enc ((l.take (k + 1)).map low) = enc ((l.take k).map low) ++ Lib.encodeRune (low r : Int) := by
  rw [e, List.map_append, enc_append]
  simp [enc]
theorem enc_take_len (s : ByteArray) (k : Nat) : (enc (((rn s.data.toList).take k).map low)).length ≤ 4 * s.size := by
  have h1 := enc_len (((rn s.data.toList).take k).map low)
  have h2 := cnt_le s
  rw [List.length_map, List.length_take] at h1
  unfold cnt at h2
  omega
theorem ref_fold (s : ByteArray) (w : World) (hs : s.size ≤ 4398046511104) : Calls Try.prog 58 #[.string s] w (Ans (.string (foldB s)) w) := by
  have hc := cnt_le s
  go_enter Try.func58, Try.ntmps58
  go_wp2
  go_loopw [3, 5] (fun v _ wr => ∃ k pos : Nat, v = .string ⟨(enc (((rn s.data.toList).take k).map low)).toArray⟩ ∧ At s k pos ∧ wr = w.iter s pos) (fun _ _ wr => s.size - wr.iterPos w.heap.size)
  case atStart => exact ⟨0, 0, by simp [enc_nil], At.zero s, rfl⟩
  case round =>
    obtain ⟨k, pos, rfl, hat, rfl⟩ := hrel
    by_cases hp : pos < s.size
    · have hnx : ∀ ty, (Instr.next (.pointer (some ⟨w.heap.size, 0, none⟩)) true ty).run Try.prog (w.iter s pos) = _ := fun ty => run_next_any w s pos ty hp
      have hlt := hat.lt hp
      have hwd := hat.wide hp
      have hmo := hat.more hp
      have hbig := hat.big hp
      have hhere := enc_take (hat.here hp)
      have hib := iter_below w s (pos + (Utf8.decode s pos).2)
      have hlen := enc_take_len s k
      revert hhere hmo hwd hnx hbig hib hlen
      generalize (Utf8.decode s pos).1 = r
      generalize (Utf8.decode s pos).2 = d
      generalize enc (((rn s.data.toList).take k).map low) = E
      intro hnx hwd hmo hbig hhere hib hlen
      have hl := low_or r
      have hel := encodeRune_len (low r : Int)
      have hadd : ∀ (W : World) (x : Int), x = (low r : Int) → (Op.stringOp .add ⟨E.toArray⟩ (Utf8.encode x)).run Try.prog W = .ok (.string ⟨(E ++ Lib.encodeRune (low r : Int)).toArray⟩) W := fun W x hx => by
        have h := run_string_add_sum (P := Try.prog) (w := W) ⟨E.toArray⟩ ⟨(Lib.encodeRune (low r : Int)).toArray⟩ (by rw [size_mk, size_mk]; omega)
        rw [cat_list] at h
        rw [hx, encode_eq]
        exact h
      revert hadd hhere
      generalize E ++ Lib.encodeRune (low r : Int) = F
      intro hhere hadd
      have hF := fun _ : Unit => congrArg (fun l : List UInt8 => Value.string ⟨l.toArray⟩) hhere.symm
      clear hhere
      by_cases h : 65 ≤ r ∧ r ≤ 90
      · have hadd' := fun W => hadd W ((r : Int) - 65 + 97) (by omega)
        clear hadd hl hel
        go_wp2_with fail
        go_roundw
        case rel => exact ⟨k + 1, _, hF (), hmo, rfl⟩
        case measure =>
          simp only [World.iterPos_iter]
          omega
      · have hadd' := fun W => hadd W (r : Int) (by omega)
        clear hadd hl hel
        go_wp2_with fail
        all_goals
          go_roundw
          case rel => exact ⟨k + 1, _, hF (), hmo, rfl⟩
          case measure =>
            simp only [World.iterPos_iter]
            omega
    · have hnx : ∀ ty, (Instr.next (.pointer (some ⟨w.heap.size, 0, none⟩)) true ty).run Try.prog (w.iter s pos) = _ := fun ty => run_next_end w s pos ty hp
      have hib := iter_below w s pos
      have hk := hat.done hp
      subst hk
      rw [List.take_of_length_le (by unfold cnt; omega)]
      go_wp2_with fail
      go_ret
      exact ⟨rfl, hib⟩
theorem fold_any (s : ByteArray) (w : World) (hs : s.size ≤ 4398046511104) : Calls Try.prog 44 #[.string s] w (Ans (.string (foldB s)) w) := by
  have hc := cnt_le s
  have hT := heap_alloc_new w (.cells #[.pointer none, .slice none 0 0] 92)
  have hT1 : w.heap.size ≤ (w.alloc (.cells #[.pointer none, .slice none 0 0] 92)).heap.size := by simp
  go_enter Try.func44, Try.ntmps44
  go_wp2_with fail
  refine (Try.Builder_Grow_fresh w.heap.size w.heap.size s.size _ (Nat.le_refl _) hT hT1 (by omega)).mono ?_
  rintro e w1 ⟨rfl, h1, b1⟩
  have hlt1 : w.heap.size < w1.heap.size := by have := b1.size; simp at this; omega
  have b1' : Below w.heap.size w w1 := ((Below.refl _ w).alloc (Nat.le_refl _) _).trans b1
  clear b1 hT hT1
  go_wp2_with fail
  go_loopw [5] (fun _ wr => ∃ k pos : Nat, Lib.IsBuilderF 92 5 w.heap.size w.heap.size (Lib.byteCells (enc (((rn s.data.toList).take k).map low))) wr ∧ wr.heap[w1.heap.size]? = some (.stringIter s pos) ∧ Below w.heap.size w wr ∧ At s k pos) (fun _ wr => s.size - wr.iterPos w1.heap.size)
  case atStart =>
    have h2 : Lib.IsBuilderF 92 5 w.heap.size w.heap.size [] w1 := Lib.IsBuilderF.of (Or.inr h1)
    exact ⟨0, 0, h2.alloc _, World.iter_heap w1 s 0, b1'.alloc (by omega) _, At.zero s⟩
  case round =>
    obtain ⟨k, pos, hI, hit, hbw, hat⟩ := hrel
    have hsz : w1.heap.size < wr.heap.size := (Array.getElem?_eq_some_iff.1 hit).1
    by_cases hp : pos < s.size
    · have hnx : ∀ ty, (Instr.next (.pointer (some ⟨w1.heap.size, 0, none⟩)) true ty).run Try.prog wr = _ := fun ty => Lib.run_next_any_at wr w1.heap.size s pos ty hit hp
      have hlt := hat.lt hp
      have hwd := hat.wide hp
      have hmo := hat.more hp
      have hbig := hat.big hp
      have hhere := enc_take (hat.here hp)
      have hlen := enc_take_len s k
      have hI2 := hI.iterAt hit (pos + (Utf8.decode s pos).2)
      have hit2 := Lib.iterAt_heap wr w1.heap.size s pos (pos + (Utf8.decode s pos).2) hit
      have hbw2 := Lib.below_iterAt hbw (k := w1.heap.size) (by omega) s (pos + (Utf8.decode s pos).2)
      have hsz2 : w.heap.size ≤ (wr.iterAt w1.heap.size s (pos + (Utf8.decode s pos).2)).heap.size := by rw [Lib.iterAt_size]; omega
      have hpos : wr.iterPos w1.heap.size = pos := by simp only [World.iterPos, hit]
      revert hhere hmo hwd hnx hbig hlen hI2 hit2 hbw2 hsz2
      generalize (Utf8.decode s pos).1 = r
      generalize (Utf8.decode s pos).2 = d
      generalize enc (((rn s.data.toList).take k).map low) = E
      intro hnx hwd hmo hbig hhere hlen hI2 hit2 hbw2 hsz2
      have hl := low_or r
      have hsm := fun w => small_any r hbig w
      have hF := fun _ : Unit => hhere
      clear hhere hI
      go_wp2_with fail
      refine (hsm _).mono ?_
      rintro e w2 ⟨rfl, rfl⟩
      go_wp2_with fail
      refine (Try.Builder_WriteRune_k w.heap.size w.heap.size _ (low r : Int) (by omega) (by omega) _ hI2 (by rw [Lib.byteCells_length]; omega) hsz2).mono ?_
      rintro e w2 ⟨rfl, h2, b2, k2⟩
      have hit3 := k2.iter hit2 (by omega)
      go_wp2_with fail
      go_roundw
      case rel =>
        refine ⟨k + 1, pos + d, ?_, hit3, hbw2.trans b2, hmo⟩
        rw [hF (), Lib.byteCells_append, Lib.byteCells_encodeRune]
        exact Or.inr h2
      case measure =>
        simp only [World.iterPos, hit3, hit]
        omega
    · have hnx : ∀ ty, (Instr.next (.pointer (some ⟨w1.heap.size, 0, none⟩)) true ty).run Try.prog wr = _ := fun ty => Lib.run_next_end_at wr w1.heap.size s pos ty hit hp
      have hk := hat.done hp
      subst hk
      rw [List.take_of_length_le (by unfold cnt; omega)] at hI
      go_wp2_with fail
      refine (Try.Builder_String_any_k w.heap.size w.heap.size _ _ hI (by omega)).mono ?_
      rintro e w2 ⟨rfl, _, b2, _⟩
      go_wp2_with fail
      go_ret
      exact ⟨rfl, hbw.trans b2⟩
theorem same_any (a b : ByteArray) (w : World) (ha : a.size ≤ 4398046511104) (hb : b.size ≤ 4398046511104) : Calls Try.prog 27 #[.string a, .string b] w (Ans (.bool ((foldB a).toList == (foldB b).toList)) w) := by
  go_enter Try.func27, Try.ntmps27
  go_wp2_with fail
  refine (fold_any a _ ha).mono ?_
  rintro e w1 ⟨rfl, b1⟩
  go_wp2_with fail
  refine (fold_any b _ hb).mono ?_
  rintro e w2 ⟨rfl, b2⟩
  have b2' := b1.trans (b2.mono b1.size)
  go_wp2_with fail
  go_ret
  exact ⟨rfl, b2'⟩
end Go.Proofs.Ytgjncaobcgjefaa
