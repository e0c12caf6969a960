/- Law 12's helper: drop (a row without a key). -/
import Derived.Test.YtkhhaokelhmikaaAlA
import Derived.BigQuiet
import Derived.Deep.QuietTactic
import Derived.Deep.CutRange
namespace Go.Proofs.Ytkhhaokelhmikaa
open Go.RowKit
set_option linter.unusedVariables false
set_option linter.unusedSimpArgs false
set_option maxRecDepth 20000

/-- What drop answers: a row of its own, new. -/
def DropOut (w : World) (M : List Du) (e : Ending) (w' : World) : Prop := ∃ v, e = .returned v ∧ OwnD w' w.heap.size v M ∧ Below w.heap.size w w'
set_option maxHeartbeats 2000000 in
theorem drop_any (A : Option Addr) (n c : Nat) (L : List Du) (k : Nat) (w : World) (h : RD w w.heap.size A n c L) (hn : n ≤ 1000000) (hk : k < 18446744073709551616) :
    Calls Try.prog 14 #[.slice A n c, .int .u64 (k : Int)] w (DropOut w (dropK L k)) := by
  have HL := Lib.hid h.1
  have HR := Lib.hid h
  clear h
  go_enter Try.func14, Try.ntmps14
  go_wp2_with fail
  go_loopw [5, 10] (fun v i wr => ∃ q : Nat, q ≤ n ∧ i = .int .i64 (q : Int) ∧ Hid (OwnD wr w.heap.size v (dropK (L.take q) k) ∧ Below w.heap.size w wr)) (fun _ i _ => n - (intOf i).toNat)
  case atStart => exact ⟨0, by omega, rfl, Lib.hid ⟨OwnD.nil _ _, Below.refl _ _⟩⟩
  case round =>
    obtain ⟨q, hq, rfl, HO⟩ := hrel
    by_cases hlt : q < n
    · have hql : q < L.length := by have := HL.out; omega
      obtain ⟨hown, hb⟩ := HO.out
      obtain ⟨b, off, rfl, hbA, a0, a1⟩ := (HR.out.below hb).at hql
      have hx : L[q].In := HR.out.2.1 _ (List.getElem_mem hql)
      have hts : dropK (L.take (q + 1)) k = if L[q].k = k then dropK (L.take q) k else dropK (L.take q) k ++ [L[q]] := by
        rw [List.take_succ_eq_append_getElem hql, dropK_snoc]
      have HT := Lib.hid hts
      have hlen := dropK_len (L.take q) k
      have hlen2 : (L.take q).length ≤ q := List.length_take_le _ _
      have HLE : Hid ((dropK (L.take q) k).length ≤ q) := Lib.hid (by omega)
      have hsz := hb.size
      have HX := Lib.hid hx
      clear hts HO hlen hlen2 hx
      have HMI : Hid (InD (dropK (L.take q) k)) := Lib.hid (dropK_in (fun x hx => HR.out.2.1 x (List.mem_of_mem_take hx)) k)
      generalize L[q] = x at *
      generalize dropK (L.take q) k = M at *
      have cA : w.heap.size ≤ wr.heap.size := hsz
      have g2 : (q : Int) < (n : Int) := by omega
      have b1 := hb.trans ((belowA wr (.cells #[.int .i64 x.t, .int .u64 (x.k : Int)] 35)).mono hsz)
      have o1 := hown.on (belowA wr (.cells #[.int .i64 x.t, .int .u64 (x.k : Int)] 35))
      by_cases hk2 : x.k = k
      · have HE : Hid (dropK (L.take (q + 1)) k = M) := Lib.hid (by rw [HT.out, if_pos hk2])
        have d1 : ((x.k : Int) != (k : Int)) = false := by simp [hk2]
        have d2 : ((x.k : Int) == (k : Int)) = true := by simp [hk2]
        have HF := Lib.hid (⟨o1, b1⟩ : _ ∧ _)
        clear HT HMI HLE HX hown hb o1 b1 hsz hbA hql
        obtain ⟨xt, xk⟩ := x
        simp only at *
        subst hk2
        go_wp2_with fail
        go_roundw
        case rel => exact ⟨q + 1, by omega, by go_num, Lib.hid ⟨by rw [HE.out]; exact HF.out.1, HF.out.2⟩⟩
        case measure => simp [intOf]; omega
      · have HE : Hid (dropK (L.take (q + 1)) k = M ++ [x]) := Lib.hid (by rw [HT.out, if_neg hk2])
        have d1 : ((x.k : Int) != (k : Int)) = true := by simp; omega
        have d2 : ((x.k : Int) == (k : Int)) = false := by rw [beq_eq_false_iff_ne]; omega
        obtain ⟨Am, cm, rfl, _, _⟩ := o1.rd HMI.out
        have hs1 : w.heap.size ≤ (wr.alloc (.cells #[.int .i64 x.t, .int .u64 (x.k : Int)] 35)).heap.size := b1.size
        have HF := Lib.hid (⟨o1, b1, hs1⟩ : _ ∧ _ ∧ _)
        have k0 : Hid (Blk (wr.alloc (.cells #[.int .i64 x.t, .int .u64 (x.k : Int)] 35)) wr.heap.size 35 #[.int .i64 x.t, .int .u64 (x.k : Int)]) := Lib.hid (Blk.new _ _ _)
        clear HT HMI hown hb o1 b1 hsz hbA hql hs1 cA hk2
        have HLL : Hid (M.length + 1 ≤ 8796093022208) := Lib.hid (by have := HLE.out; omega)
        obtain ⟨xt, xk⟩ := x
        simp only at *
        go_upto_region 6 with (fail)
        generalize wr.alloc (.cells #[.int .i64 xt, .int .u64 (xk : Int)] 35) = W1 at HF k0 ⊢
        generalize wr.heap.size = gd at k0 ⊢
        obtain ⟨o1, b1, hs1⟩ := HF.out
        have oA := o1.on (belowA W1 (.cells #[.int .i64 xt, .int .u64 (xk : Int)] 35))
        have rA := one_rd W1 ⟨xt, xk⟩ HX.out
        have bA := b1.trans ((belowA W1 (.cells #[.int .i64 xt, .int .u64 (xk : Int)] 35)).mono hs1)
        have sA := bA.size
        have k1 := k0.out.cell 0
        have k2 := k0.out.cell 1
        obtain ⟨mm, hmm⟩ : ∃ mm, mm = M.length := ⟨_, rfl⟩
        rw [← hmm] at oA HLL ⊢
        clear HF o1 b1 hs1 a0 a1 d1 d2
        go_wp2_with (at_builtin; go_loud (with_reducible refine wpList_appendD rfl (.tmp 18) (.tmp 20) rfl rfl w.heap.size (.slice Am mm cm) M (by with_unfolding_all rfl) oA _ _ 1 1 [⟨xt, xk⟩] (by with_unfolding_all rfl) rA (by rw [← hmm]; exact HLL.out) sA ?_); intro v9 w9 ha9)
        have b9 := below_grown bA sA ha9.2 (fun kk hkk => (World.ownsRow.lt oA kk hkk).1)
        have o9 := ha9.1
        have HF := Lib.hid (⟨o9, b9⟩ : _ ∧ _)
        clear ha9 oA rA bA sA b9 o9 hmm
        go_roundw
        case rel => exact ⟨q + 1, by omega, by go_num, Lib.hid ⟨by rw [HE.out]; exact HF.out.1, HF.out.2⟩⟩
        case measure => simp [intOf]; omega
    · have hqn : q = n := by omega
      have HE : Hid (L.take q = L) := Lib.hid (List.take_of_length_le (by rw [HL.out]; omega))
      have z1 : ¬ (q : Int) < (n : Int) := by omega
      clear hlt
      go_wp2_with fail
      go_ret
      exact ⟨_, rfl, by rw [← HE.out]; exact HO.out.1, HO.out.2⟩
end Go.Proofs.Ytkhhaokelhmikaa
