/- limelightref13's all: each held. -/
import Derived.Test.YtfijlgkgbbemnaaBdA
namespace Go.Proofs.Ytfijlgkgbbemnaa
open Go.RowKit
set_option linter.unusedVariables false
set_option linter.unusedSimpArgs false
set_option maxRecDepth 20000

/-- All of a row, held. -/
def heldR (l : List Tup) : List Ln := l.map holdT
theorem heldR_in {l : List Tup} (h : ∀ t ∈ l, t.In) : ∀ a ∈ heldR l, a.In := fun a ha => by
  obtain ⟨t, ht, rfl⟩ := List.mem_map.1 ha
  exact holdT_in (h t ht)
theorem unR_in {l : List Ln} (h : ∀ a ∈ l, a.In) : ∀ t ∈ l.map unT, t.In := fun t ht => by
  obtain ⟨a, ha, rfl⟩ := List.mem_map.1 ht
  exact unT_in (h a ha)
/-- A new row of tuples. -/
def RowOut (w : World) (M : List Tup) (e : Ending) (w' : World) : Prop := ∃ v, e = .returned v ∧ OwnTp w' w.heap.size v M ∧ Below w.heap.size w w'
set_option maxHeartbeats 2000000 in
theorem ref_all (A : Option Addr) (n c : Nat) (l : List Tup) (w : World) (h : RT w w.heap.size A n c l) (hn : n ≤ 1000000) :
    Calls Try.prog 41 #[.slice A n c] w (RowOut w ((heldR l).map unT)) := by
  have HL := Lib.hid h.1
  have HR := Lib.hid h
  clear h
  go_enter Try.func41, Try.ntmps41
  go_wp2_with fail
  go_loopw [3, 8] (fun v i wr => ∃ q : Nat, q ≤ n ∧ i = .int .i64 (q : Int) ∧ Hid (OwnTp wr w.heap.size v ((heldR (l.take q)).map unT) ∧ Below w.heap.size w wr)) (fun _ i _ => n - (intOf i).toNat)
  case atStart => exact ⟨0, by omega, rfl, Lib.hid ⟨OwnTp.nil _ _, Below.refl _ _⟩⟩
  case round =>
    obtain ⟨q, hq, rfl, HO⟩ := hrel
    by_cases hlt : q < n
    · have hql : q < l.length := by have := HL.out; omega
      obtain ⟨hown, hb⟩ := HO.out
      obtain ⟨b, off, rfl, hbA, a0, a1, a2⟩ := (HR.out.below hb).at hql
      have hx : l[q].In := HR.out.2.1 _ (List.getElem_mem hql)
      have HT : Hid ((heldR (l.take (q + 1))).map unT = (heldR (l.take q)).map unT ++ [unT (holdT l[q])]) := Lib.hid (by
        unfold heldR
        rw [List.take_succ_eq_append_getElem hql, List.map_append, List.map_append]
        rfl)
      have HLE : Hid (((heldR (l.take q)).map unT).length ≤ q) := Lib.hid (by
        simp only [heldR, List.length_map]
        exact List.length_take_le _ _)
      have HMI : Hid (∀ t ∈ (heldR (l.take q)).map unT, t.In) := Lib.hid (unR_in (heldR_in fun x hx => HR.out.2.1 x (List.mem_of_mem_take hx)))
      have hsz := hb.size
      have HX := Lib.hid hx
      clear HO hx
      generalize l[q] = x at *
      generalize (heldR (l.take q)).map unT = M at *
      have g2 : (q : Int) < (n : Int) := by omega
      obtain ⟨Am, cm, rfl, _, _⟩ := hown.rt HMI.out
      have b1 := hb.trans ((belowA wr (.cells #[.int .u32 (x.owner : Int), .int .u64 (x.rate : Int), .int .i64 x.over] 31)).mono hsz)
      have o1 := hown.on (belowA wr (.cells #[.int .u32 (x.owner : Int), .int .u64 (x.rate : Int), .int .i64 x.over] 31))
      have HF := Lib.hid (⟨o1, b1⟩ : _ ∧ _)
      have HC := Lib.hid (ref_hold x HX.out)
      have HHI := Lib.hid (unT_in (holdT_in HX.out))
      clear hown hb o1 b1 hbA hql hsz
      obtain ⟨mm, hmm⟩ : ∃ mm, mm = M.length := ⟨_, rfl⟩
      rw [← hmm] at HF HLE ⊢
      have HMM := Lib.hid hmm
      clear hmm
      obtain ⟨y, hy⟩ : ∃ y, y = unT (holdT x) := ⟨_, rfl⟩
      rw [← hy] at HT HC HHI
      clear hy
      obtain ⟨xo, xr, xv⟩ := x
      obtain ⟨yo, yr, yv⟩ := y
      simp only at a0 a1 a2 HF HC
      go_wp2_with fail
      ((with_reducible refine (HC.out _).mono ?_); rintro e W2 ⟨rfl, b2⟩)
      have o2 := HF.out.1.on b2
      have bw := HF.out.2.trans (b2.mono HF.out.2.size)
      have oA := o2.on (belowA W2 (.cells #[.int .u32 (yo : Int), .int .u64 (yr : Int), .int .i64 yv] 31))
      have rA := one_rt W2 ⟨yo, yr, yv⟩ HHI.out
      have bA := bw.trans ((belowA W2 (.cells #[.int .u32 (yo : Int), .int .u64 (yr : Int), .int .i64 yv] 31)).mono bw.size)
      have sA := bA.size
      clear a0 a1 a2 HF b2 o2 bw HC
      go_wp2_with (at_builtin; go_loud (with_reducible refine wpList_appendTp rfl (.tmp 12) (.tmp 15) rfl rfl w.heap.size (.slice Am mm cm) M (by with_unfolding_all rfl) oA _ _ 1 1 [⟨yo, yr, yv⟩] (by with_unfolding_all rfl) rA (by rw [← HMM.out]; have := HLE.out; omega) sA ?_); intro v9 w9 ha9)
      have b9 := below_grown bA sA ha9.2 (fun kk hkk => (World.ownsRow.lt oA kk hkk).1)
      have HF := Lib.hid (⟨ha9.1, b9⟩ : _ ∧ _)
      clear ha9 oA rA bA sA b9
      go_roundw
      case rel => exact ⟨q + 1, by omega, by go_num, Lib.hid ⟨by rw [HT.out]; exact HF.out.1, HF.out.2⟩⟩
      case measure => simp [intOf]; omega
    · have hqn : q = n := by omega
      have HE : Hid (l.take q = l) := Lib.hid (List.take_of_length_le (by rw [HL.out]; omega))
      have z1 : ¬ (q : Int) < (n : Int) := by omega
      clear hlt
      go_wp2_with fail
      go_ret
      exact ⟨_, rfl, by have := HO.out.1; rw [HE.out] at this; exact this, HO.out.2⟩
end Go.Proofs.Ytfijlgkgbbemnaa
