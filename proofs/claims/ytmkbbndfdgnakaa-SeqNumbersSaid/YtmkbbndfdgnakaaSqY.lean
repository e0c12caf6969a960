/- Law 15's play: the project's Seen beside the given one. -/
import Derived.Test.YtmkbbndfdgnakaaSqK
import Derived.Test.YtmkbbndfdgnakaaSqT
import Derived.Test.YtmkbbndfdgnakaaSqSl
import Derived.Test.YtmkbbndfdgnakaaRk
import Derived.Deep.Cut
import Derived.Deep.CutBlock
namespace Go.Proofs.Ytmkbbndfdgnakaa
open Go.RowKit
set_option linter.unusedVariables false
set_option linter.unusedSimpArgs false
set_option maxRecDepth 20000

/-- Both, side by side. -/
structure Sq2 (w0 : World) (G gr : Nat) (s s2 : Sn) (m : Nat) (S : Nat → Prop) (W : World) : Prop where
  sq : SqAt W G s S
  rf : SnAt W gr s2
  ok : SnOk s m
  ok2 : SnOk s2 m
  sep : ¬ S gr
  lo : ∀ k, S k → w0.heap.size ≤ k
  lor : w0.heap.size ≤ gr
  below : Below w0.heap.size w0 W
section
variable {w0 W W' : World} {G gr m : Nat} {s s2 : Sn} {S : Nat → Prop} {e : Ending} {x : Int}
theorem Sq2.on (h : Sq2 w0 G gr s s2 m S W) (hb : Below W.heap.size W W') : Sq2 w0 G gr s s2 m S W' :=
  ⟨h.sq.keep (OnlyS.of (S := fun _ => False) hb) (fun _ _ h => h), h.rf.on hb, h.ok, h.ok2, h.sep, h.lo, h.lor, h.below.trans (hb.mono h.below.size)⟩
theorem Sq2.left (h : Sq2 w0 G gr s s2 m S W) {n : Nat} (ho : SqOut G s (ext16 s.last n) S W e W') (hm : m ≤ 100000) (hn : n < 65536) : e = .returned (.tuple #[.int .i64 (ext16 s.last n), .bool (okS s n)]) ∧ ∃ S', Sq2 w0 G gr (addS s n) s2 (m + 1) S' W' := by
  obtain ⟨h1, S', h2, h3, h4⟩ := ho
  exact ⟨h1, S', h2, h.rf.onlyS h4 h.sep, addS_ok h.ok (by omega) hn, h.ok2.more (Nat.le_succ _), fun hk => by
    rcases h3 gr hk with h5 | h5
    · exact h.sep h5
    · have := h.rf.lt
      omega, fun k hk => by
    rcases h3 k hk with h5 | h5
    · exact h.lo k h5
    · exact Nat.le_trans h.below.size h5, h.lor, h.below.trans (h4.below h.lo h.below.size)⟩
theorem Sq2.right {m2 : Nat} (h : Sq2 w0 G gr s s2 m2 S W) {n : Nat} (hk2 : SnOk s2 m) (ho : SnOut gr s2 (ext16 s2.last n) W e W') (hm : m ≤ 100000) (hm2 : m + 1 ≤ m2) (hn : n < 65536) : e = .returned (.tuple #[.int .i64 (ext16 s2.last n), .bool (okS s2 n)]) ∧ Sq2 w0 G gr s (addS s2 n) m2 S W' := by
  obtain ⟨h1, h2, h3⟩ := ho
  exact ⟨h1, h.sq.keep (OnlyS.one (S := fun k => k = gr) h3 rfl) (fun k hk e => h.sep (e ▸ hk)), h2, h.ok, (addS_ok hk2 (by omega) hn).more hm2, h.sep, h.lo, h.lor, h.below.trans (h3.below h.lor h.below.size)⟩
/-- What the calls tell of a Seen, in whatever world a draw on. -/
def Tell (G gr : Nat) (l t : Int) (W : World) : Prop :=
  (∀ k, Calls Try.prog 15 #[.pointer (some ⟨G, 0, none⟩)] (W.drewN k) fun e w' => e = .returned (.int .i64 l) ∧ ∃ m, w' = (W.drewN k).drewN m) ∧
  (∀ k, Calls Try.prog 16 #[.pointer (some ⟨G, 0, none⟩)] (W.drewN k) fun e w' => e = .returned (.int .i64 t) ∧ ∃ m, w' = (W.drewN k).drewN m) ∧
  (∀ k, Calls Try.prog 21 #[.pointer (some ⟨gr, 0, none⟩)] (W.drewN k) fun e w' => e = .returned (.int .i64 t) ∧ ∃ m, w' = (W.drewN k).drewN m) ∧
  (∀ k, (W.drewN k).cell? ⟨gr, 1, none⟩ = some (.int .i64 l))
theorem Sq2.tell (h : Sq2 w0 G gr s s m S W) (hm : m ≤ 1000000) : Tell G gr s.last (lostS s) W :=
  ⟨fun k => sq_last (h.on (belowDrewN W k)).sq, fun k => sq_lost (h.on (belowDrewN W k)).sq h.ok hm, fun k => ref_lost gr s m _ (h.on (belowDrewN W k)).rf h.ok2 hm, fun k => by
    obtain ⟨M, hb, _⟩ := h.rf
    exact hb.cell 1⟩
end
set_option maxHeartbeats 4000000 in
theorem play_any (A : Option Addr) (n c : Nat) (F : Nat → Nat) (w : World) (h : RK .u16 65536 w w.heap.size A n c F) (hn : n ≤ 281474976710656) : Calls Try.prog 9 #[.slice A n c] w (Yes w) := by
  have HR := Lib.hid h
  clear h
  go_enter Try.func9, Try.ntmps9
  go_wp2_with fail
  refine (sq_new _).mono ?_
  rintro e w1 ⟨G, S, rfl, p0, hS, b0⟩
  go_wp2_with fail
  refine (ref_newSeen _).mono ?_
  rintro e w2 ⟨rfl, p1, b1⟩
  have H0 : Hid (Sq2 w G w1.heap.size newS newS 0 S w2) := Lib.hid ⟨p0.keep (OnlyS.of (S := fun _ => False) b1) (fun _ _ h => h), p1, newS_ok, newS_ok, fun h => by have := p0.lt h; omega, hS, b0.size, b0.trans (b1.mono b0.size)⟩
  clear p0 hS b0 p1 b1
  generalize w1.heap.size = gr at H0 ⊢
  go_wp2_with fail
  go_loopw [5] (fun i wr => (∃ q : Nat, q ≤ 200 ∧ i = .int .i64 (q : Int) ∧ Hid (∃ s S, Sq2 w G gr s s q S wr))) (fun i _ => 200 - (intOf i).toNat)
  case atStart => exact ⟨0, by omega, rfl, Lib.hid ⟨_, _, H0.out⟩⟩
  case round =>
    obtain ⟨q, hq, rfl, HQ⟩ := hrel
    clear H0
    obtain ⟨s, S, hs⟩ := HQ.out
    have HS := Lib.hid hs
    clear hs HQ
    by_cases hlt : q < n ∧ q < 200
    · obtain ⟨h1, h2⟩ := hlt
      have g1 : decide ((q : Int) < (n : Int)) = true := by simp; omega
      have g1' : (q : Int) < (n : Int) := by omega
      have g2 : decide ((q : Int) < 200) = true := by simp; omega
      have g2' : (q : Int) < 200 := by omega
      obtain ⟨bA, off, rfl, hbA, hc⟩ := (HR.out.below HS.out.below).2.2 (by omega)
      have x0 := hc q h1
      have hx := HR.out.2.1 q h1
      obtain ⟨x, hxe⟩ : ∃ x, x = F q := ⟨_, rfl⟩
      rw [← hxe] at x0 hx
      have HX := Lib.hid hxe
      clear hc hxe
      go_wp2_with fail
      ((with_reducible refine (sq_add HS.out.sq HS.out.ok (by omega) hx).mono ?_); rintro e w3 ho)
      obtain ⟨rfl, S3, h3⟩ := HS.out.left ho (by omega) hx
      have x0 : w3.cell? ⟨bA, off + q, none⟩ = some (.int .u16 (x : Int)) := by
        obtain ⟨b', o', eA, _, hc2⟩ := (HR.out.below h3.below).2.2 (by omega)
        injection eA with eA
        injection eA with e1 e2
        subst e1
        subst e2
        rw [HX.out]
        exact hc2 q h1
      have H3 := Lib.hid h3
      have HO2 := Lib.hid HS.out.ok2
      clear h3 ho HS
      go_wp2_with fail
      ((with_reducible refine (ref_sadd H3.out.rf HO2.out (by omega) hx).mono ?_); rintro e w4 ho)
      obtain ⟨rfl, h4⟩ := H3.out.right HO2.out ho (by omega) (by omega) hx
      have HT := Lib.hid (h4.tell (by omega))
      have H4 := Lib.hid h4
      clear h4 ho H3 HO2 hx HX
      generalize ext16 s.last x = X at HT H4 ⊢
      generalize okS s x = b at HT H4 ⊢
      generalize addS s x = s' at HT H4 ⊢
      generalize s'.last = l at HT ⊢
      generalize lostS s' = t at HT ⊢
      have kc := HT.out.2.2.2
      go_upto_region 9 with (fail)
      go_quiet ((first | (go_at_call 15; refine Calls.quiet_of (HT.out.1 _)) | (go_at_call 16; refine Calls.quiet_of (HT.out.2.1 _)) | (go_at_call 21; refine Calls.quiet_of (HT.out.2.2.1 _))))
      go_wp2_with fail
      have H5 := Lib.hid (H4.out.on (belowDrewN w4 nq))
      clear H4 HT kc
      go_roundw
      case rel => exact ⟨q + 1, by omega, by go_num, Lib.hid ⟨_, _, H5.out⟩⟩
      case measure => simp [intOf]; omega
    · have HT := Lib.hid (HS.out.tell (by omega))
      generalize s.last = l at HT ⊢
      generalize lostS s = t at HT ⊢
      have kc := HT.out.2.2.2
      by_cases h1 : q < n
      · have g1 : decide ((q : Int) < (n : Int)) = true := by simp; omega
        have g1' : (q : Int) < (n : Int) := by omega
        have g2 : decide ((q : Int) < 200) = false := by simp; omega
        go_upto_region 11 with (fail)
        go_quiet ((first | (go_at_call 15; refine Calls.quiet_of (HT.out.1 _)) | (go_at_call 16; refine Calls.quiet_of (HT.out.2.1 _)) | (go_at_call 21; refine Calls.quiet_of (HT.out.2.2.1 _))))
        go_wp2_with fail
        go_ret
        exact ⟨rfl, (HS.out.on (belowDrewN wr nq)).below⟩
      · have g1 : decide ((q : Int) < (n : Int)) = false := by simp; omega
        go_upto_region 11 with (fail)
        go_quiet ((first | (go_at_call 15; refine Calls.quiet_of (HT.out.1 _)) | (go_at_call 16; refine Calls.quiet_of (HT.out.2.1 _)) | (go_at_call 21; refine Calls.quiet_of (HT.out.2.2.1 _))))
        go_wp2_with fail
        go_ret
        exact ⟨rfl, (HS.out.on (belowDrewN wr nq)).below⟩
end Go.Proofs.Ytmkbbndfdgnakaa
