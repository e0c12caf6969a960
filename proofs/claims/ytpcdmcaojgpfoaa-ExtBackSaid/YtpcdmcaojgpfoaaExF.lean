/- Contracts: ext.Find, limelightref3.Find. -/
import Derived.Test.YtpcdmcaojgpfoaaExS
namespace Go.Proofs.Ytpcdmcaojgpfoaa.RP
open Go.RowKit
set_option linter.unusedVariables false
set_option linter.unusedSimpArgs false
set_option maxRecDepth 20000

/-- The bytes of the first of that ID. -/
def fd (L : List (Int × List UInt8)) (id : Int) : Option (List UInt8) := (L.find? (fun x => x.1 == id)).map (·.2)
def fdB (L : List (Int × List UInt8)) (id : Int) : List UInt8 := (fd L id).getD []
def fdK (L : List (Int × List UInt8)) (id : Int) : Bool := (fd L id).isSome
theorem fd_at {E : List El} {q : Nat} {id : Int} (h : q < E.length) (hn : ∀ e ∈ E.take q, e.id ≠ id) (he : E[q].id = id) : fdB (E.map El.dat) id = E[q].d ∧ fdK (E.map El.dat) id = true := by
  have e : fd (E.map El.dat) id = some E[q].d := by
    have h1 : E = E.take q ++ E[q] :: E.drop (q + 1) := by
      rw [← List.drop_eq_getElem_cons h, List.take_append_drop]
    revert he h1
    generalize E[q] = X
    intro he h1
    have h2 : (E.map El.dat).find? (fun x => x.1 == id) = some X.dat := by
      conv => lhs; rw [h1]
      rw [List.map_append, List.map_cons, List.find?_append]
      have h3 : ((E.take q).map El.dat).find? (fun x => x.1 == id) = none := by
        rw [List.find?_eq_none]
        intro x hx
        obtain ⟨y, hy, rfl⟩ := List.mem_map.1 hx
        simpa [El.dat] using hn y hy
      rw [h3]
      simp [El.dat, he]
    unfold fd
    rw [h2]
    rfl
  unfold fdB fdK
  rw [e]
  exact ⟨rfl, rfl⟩
theorem fd_no {E : List El} {id : Int} (hn : ∀ e ∈ E, e.id ≠ id) : fdB (E.map El.dat) id = [] ∧ fdK (E.map El.dat) id = false := by
  have e : fd (E.map El.dat) id = none := by
    have h3 : (E.map El.dat).find? (fun x => x.1 == id) = none := by
      rw [List.find?_eq_none]
      intro x hx
      obtain ⟨y, hy, rfl⟩ := List.mem_map.1 hx
      simpa [El.dat] using hn y hy
    unfold fd
    rw [h3]
    rfl
  unfold fdB fdK
  rw [e]
  exact ⟨rfl, rfl⟩
theorem cut_all (A : Option Addr) (n c : Nat) (l : List UInt8) (w : World) (h : R8 w w.heap.size A n c l) (hn : n ≤ 140737488355328) :
    Calls Try.prog 52 #[.slice A n c, .int .i64 0, .int .i64 n] w (Out8b w l true) := by
  have := cut_yes A n c l w h hn 0 n (by omega)
  rw [List.drop_zero, List.take_of_length_le (by rw [h.1]; exact Nat.le_refl _)] at this
  exact this
set_option maxHeartbeats 2000000 in
theorem ext_find (A : Option Addr) (n c : Nat) (E : List El) (id : Int) (w : World) (h : RE w w.heap.size A n c E) (hn : n ≤ 140737488355328) (hdl : ∀ e ∈ E, e.d.length ≤ 140737488351232) :
    Calls Try.prog 27 #[.slice A n c, .int .i64 id] w (Out8b w (fdB (E.map El.dat) id) (fdK (E.map El.dat) id)) := by
  have hEn := Lib.hid h.1
  go_enter Try.func27, Try.ntmps27
  go_wp2_with fail
  go_loopw [7, 10] (fun _ i wr => ∃ q : Nat, q ≤ n ∧ i = .int .i64 (q : Int) ∧ (∀ e ∈ E.take q, e.id ≠ id) ∧ Below w.heap.size w wr) (fun _ i _ => n - (intOf i).toNat)
  case atStart => exact ⟨0, by omega, rfl, by simp, Below.refl _ _⟩
  case round =>
    obtain ⟨q, hq, rfl, hnot, hbr⟩ := hrel
    by_cases hlt : q < n
    · have g3 : decide ((q : Int) < (n : Int)) = true := by simp; omega
      have hqE : q < E.length := by rw [hEn.out]; exact hlt
      have hEm : E[q] ∈ E := List.getElem_mem hqE
      have hEl := h.2.2.1 _ hEm
      have hdq := hdl _ hEm
      obtain ⟨b, off, rfl, hbl, hcell⟩ := h.2.2.2 (by omega)
      obtain ⟨k1, k2⟩ := cellsE_get E q hqE
      have htake := Lib.hid (show E.take (q + 1) = E.take q ++ [E[q]] by rw [List.take_add_one, List.getElem?_eq_getElem hqE]; rfl)
      have hfd := fun he => fd_at hqE hnot he
      have c0 : wr.cell? ⟨b, off + q * 2, none⟩ = some (.int .i64 E[q].id) := by
        rw [Nat.mul_comm]
        exact (hbr.cell (p := ⟨b, off + 2 * q, none⟩) hbl).trans (hcell _ _ k1)
      have c1 : wr.cell? ⟨b, off + q * 2 + 1, none⟩ = some (.slice E[q].A E[q].d.length E[q].c) := by
        rw [Nat.mul_comm]
        exact (hbr.cell (p := ⟨b, off + (2 * q + 1), none⟩) hbl).trans (hcell _ _ k2)
      have hElr := hEl.2.below hbr
      have hElr := hElr.more hbr.size
      have hEbl := And.intro hnot htake
      have hsz := hbr.size
      clear hcell k1 k2 hnot htake hdl hEm hEl
      revert hdq hfd c0 c1 hElr hEbl
      generalize E[q] = X
      obtain ⟨xid, XA, Xc, Xd⟩ := X
      intro hdq hfd c0 c1 hElr hEbl
      obtain ⟨hnot, htake⟩ := hEbl
      simp only at hdq c0 c1 hElr hfd
      have hal : Below wr.heap.size wr (wr.alloc (.cells #[.int .i64 xid, .slice XA Xd.length Xc] 51)) := (Below.refl _ wr).alloc (Nat.le_refl _) _
      have hbW := hbr.trans (hal.mono hsz)
      have hR := hElr.on hal
      by_cases he : xid = id
      · obtain ⟨f1, f2⟩ := hfd he
        have f1 := Lib.hid f1
        have f2 := Lib.hid f2
        have g4 : (xid == id) = true := by simp [he]
        clear hfd hnot htake hElr hal he
        go_wp2_with fail
        refine (cut_all _ _ _ _ _ hR (by omega)).mono ?_
        rintro e w2 ⟨A2, m2, c2, rfl, hR2, hb2⟩
        have hbf := hbW.trans (hb2.mono hbW.size)
        clear hb2 hbW hR c0 c1
        go_wp2_with fail
        go_ret2
        rw [f1.out, f2.out]
        exact ⟨A2, m2, c2, rfl, hR2, hbf⟩
      · have g4 : (xid == id) = false := by simp [he]
        clear hfd hR hElr hal
        have heh := Lib.hid he
        clear he
        go_wp2_with fail
        go_roundw
        case rel =>
          refine ⟨q + 1, by omega, by go_num, ?_, hbW⟩
          rw [htake.out]
          intro e h'
          rcases List.mem_append.1 h' with h' | h'
          · exact hnot e h'
          · rw [List.mem_singleton.1 h']
            exact heh.out
        case measure => simp [intOf]; omega
    · have g3 : decide ((q : Int) < (n : Int)) = false := by simp; omega
      have hall : E.take q = E := List.take_of_length_le (by rw [hEn.out]; omega)
      rw [hall] at hnot
      obtain ⟨f1, f2⟩ := fd_no hnot
      have f1 := Lib.hid f1
      have f2 := Lib.hid f2
      clear hnot hall
      go_wp2_with fail
      go_ret2
      rw [f1.out, f2.out]
      exact ⟨none, 0, 0, rfl, R8.nil _ _ _ _, hbr⟩
set_option maxHeartbeats 2000000 in
theorem ref_find (A : Option Addr) (n c : Nat) (E : List El) (id : Int) (w : World) (h : RE w w.heap.size A n c E) (hn : n ≤ 140737488355328) (hdl : ∀ e ∈ E, e.d.length ≤ 140737488351232) :
    Calls Try.prog 43 #[.slice A n c, .int .i64 id] w (Out8b w (fdB (E.map El.dat) id) (fdK (E.map El.dat) id)) := by
  have hEn := Lib.hid h.1
  go_enter Try.func43, Try.ntmps43
  go_wp2_with fail
  go_loopw [7, 10] (fun _ i wr => ∃ q : Nat, q ≤ n ∧ i = .int .i64 (q : Int) ∧ (∀ e ∈ E.take q, e.id ≠ id) ∧ Below w.heap.size w wr) (fun _ i _ => n - (intOf i).toNat)
  case atStart => exact ⟨0, by omega, rfl, by simp, Below.refl _ _⟩
  case round =>
    obtain ⟨q, hq, rfl, hnot, hbr⟩ := hrel
    by_cases hlt : q < n
    · have g3 : decide ((q : Int) < (n : Int)) = true := by simp; omega
      have hqE : q < E.length := by rw [hEn.out]; exact hlt
      have hEm : E[q] ∈ E := List.getElem_mem hqE
      have hEl := h.2.2.1 _ hEm
      have hdq := hdl _ hEm
      obtain ⟨b, off, rfl, hbl, hcell⟩ := h.2.2.2 (by omega)
      obtain ⟨k1, k2⟩ := cellsE_get E q hqE
      have htake := Lib.hid (show E.take (q + 1) = E.take q ++ [E[q]] by rw [List.take_add_one, List.getElem?_eq_getElem hqE]; rfl)
      have hfd := fun he => fd_at hqE hnot he
      have c0 : wr.cell? ⟨b, off + q * 2, none⟩ = some (.int .i64 E[q].id) := by
        rw [Nat.mul_comm]
        exact (hbr.cell (p := ⟨b, off + 2 * q, none⟩) hbl).trans (hcell _ _ k1)
      have c1 : wr.cell? ⟨b, off + q * 2 + 1, none⟩ = some (.slice E[q].A E[q].d.length E[q].c) := by
        rw [Nat.mul_comm]
        exact (hbr.cell (p := ⟨b, off + (2 * q + 1), none⟩) hbl).trans (hcell _ _ k2)
      have hElr := hEl.2.below hbr
      have hElr := hElr.more hbr.size
      have hEbl := And.intro hnot htake
      have hsz := hbr.size
      clear hcell k1 k2 hnot htake hdl hEm hEl
      revert hdq hfd c0 c1 hElr hEbl
      generalize E[q] = X
      obtain ⟨xid, XA, Xc, Xd⟩ := X
      intro hdq hfd c0 c1 hElr hEbl
      obtain ⟨hnot, htake⟩ := hEbl
      simp only at hdq c0 c1 hElr hfd
      have hal : Below wr.heap.size wr (wr.alloc (.cells #[.int .i64 xid, .slice XA Xd.length Xc] 51)) := (Below.refl _ wr).alloc (Nat.le_refl _) _
      have hbW := hbr.trans (hal.mono hsz)
      have hR := hElr.on hal
      by_cases he : xid = id
      · obtain ⟨f1, f2⟩ := hfd he
        have f1 := Lib.hid f1
        have f2 := Lib.hid f2
        have g4 : (xid == id) = true := by simp [he]
        clear hfd hnot htake hElr hal he
        have hbb := Lib.hid (show ([] : List UInt8).length + Xd.length ≤ 140737488355328 by simp; omega)
        have hsW := hbW.size
        have hblk : Blk (wr.alloc (.cells #[.int .i64 xid, .slice XA Xd.length Xc] 51)) wr.heap.size 51 #[.int .i64 xid, .slice XA Xd.length Xc] := Blk.new _ _ _
        go_upto_region 4 with (fail)
        revert hbW hR hsW hblk
        generalize wr.alloc (.cells #[.int .i64 xid, .slice XA Xd.length Xc] 51) = W
        generalize wr.heap.size = L
        intro hbW hR hsW hblk
        have k0 := hblk.cell 0
        have k1 := hblk.cell 1
        simp at k0 k1
        have hL := hblk.lt
        clear hblk c0 c1
        go_wp2_with (at_builtin; (go_loud (with_reducible refine wpList_append8 rfl (.tmp 18) (.tmp 20) rfl rfl w.heap.size _ [] (by with_unfolding_all rfl) (by with_unfolding_all exact (Own8.empty W _ hsW)) W.heap.size XA Xd.length Xc Xd (by with_unfolding_all rfl) (by with_unfolding_all exact hR.alloc (Nat.le_refl _) _) hbb.out (by simp; omega) ?_)); intro v2 w2 ha2)
        have hb2 := ha2.below (hbW.alloc hsW _) (by simp; omega) (Own8.empty W _ hsW) (Nat.le_refl _)
        have ho := ha2.1
        rw [List.nil_append] at ho
        obtain ⟨A2, c2, rfl, hR2⟩ := ho.r8
        clear ho ha2 hbW hR k0 k1
        go_wp2_with fail
        go_ret2
        rw [f1.out, f2.out]
        exact ⟨A2, _, c2, rfl, hR2, hb2⟩
      · have g4 : (xid == id) = false := by simp [he]
        clear hfd hR hElr hal
        have heh := Lib.hid he
        clear he
        go_wp2_with fail
        go_roundw
        case rel =>
          refine ⟨q + 1, by omega, by go_num, ?_, hbW⟩
          rw [htake.out]
          intro e h'
          rcases List.mem_append.1 h' with h' | h'
          · exact hnot e h'
          · rw [List.mem_singleton.1 h']
            exact heh.out
        case measure => simp [intOf]; omega
    · have g3 : decide ((q : Int) < (n : Int)) = false := by simp; omega
      have hall : E.take q = E := List.take_of_length_le (by rw [hEn.out]; omega)
      rw [hall] at hnot
      obtain ⟨f1, f2⟩ := fd_no hnot
      have f1 := Lib.hid f1
      have f2 := Lib.hid f2
      clear hnot hall
      go_wp2_with fail
      go_ret2
      rw [f1.out, f2.out]
      exact ⟨none, 0, 0, rfl, R8.nil _ _ _ _, hbr⟩
end Go.Proofs.Ytpcdmcaojgpfoaa.RP
