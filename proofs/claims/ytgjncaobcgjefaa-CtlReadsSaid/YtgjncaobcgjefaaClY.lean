/- Contract: ctl.Bytes, of any message. -/
import Derived.Test.YtgjncaobcgjefaaNv
import Derived.Test.YtgjncaobcgjefaaCtY
namespace Go.Proofs.Ytgjncaobcgjefaa.RP
open Go.RowKit
set_option linter.unusedVariables false
set_option linter.unusedSimpArgs false
set_option maxRecDepth 20000

/-- What Bytes answers. -/
def BytesC (b : List UInt8) (er : Int) (w : World) (e : Ending) (w' : World) : Prop := ∃ v, e = .returned (.tuple #[v, .int .i64 er]) ∧ Own8 w' w.heap.size v b ∧ Below w.heap.size w w'
set_option maxHeartbeats 4000000 in
theorem bytes_no (x : Ctl) (hx : x.err ≠ 0) (A : Option Addr) (cp : Nat) (w : World) (hl : RL w w.heap.size A x.layers.length cp x.layers) (hL : x.layers.length ≤ 1000000) : Calls Try.prog 8 #[x.val A cp] w (BytesC [] x.err w) := by
  have hM := Blk.new w 25 (x.cells A cp)
  have hb0 := below_alloc w (.cells (x.cells A cp) 25)
  have hR := right_ctl x A cp (w.alloc (.cells (x.cells A cp) 25)) (hl.on hb0) hL
  generalize x.err = er at hx hR ⊢
  have t0 : (er != 0) = true := by simpa using hx
  obtain ⟨k, p, l, e, h, s, y, d⟩ := x
  simp only [Ctl.val, Ctl.cells] at hM hb0 hR ⊢
  clear hl hL hx
  generalize l.length = m at hR hM hb0 ⊢
  go_enter Try.func8, Try.ntmps8
  go_wp2_with fail
  refine hR.mono ?_
  rintro e' w1 ⟨rfl, b1⟩
  have b2 := hb0.trans (b1.mono hb0.size)
  clear b1
  go_wp2_with fail
  go_ret2
  exact ⟨_, rfl, own_nil _ _ _ _, b2⟩
theorem flat_take {α β : Type} (f : α → List β) (l : List α) (q : Nat) (h : q < l.length) : (l.take (q + 1)).flatMap f = (l.take q).flatMap f ++ f l[q] := by
  rw [List.take_add_one, List.getElem?_eq_getElem h, List.flatMap_append]
  simp
theorem flat_take_len {α β : Type} (f : α → List β) (l : List α) (q : Nat) : ((l.take q).flatMap f).length ≤ (l.flatMap f).length := by
  have h : l.flatMap f = (l.take q).flatMap f ++ (l.drop q).flatMap f := by rw [← List.flatMap_append, List.take_append_drop]
  rw [h, List.length_append]
  omega
set_option maxHeartbeats 8000000 in
theorem bytes_yes (x : Ctl) (hx : x.Ok) (A : Option Addr) (cp : Nat) (w : World) (hl : RL w w.heap.size A x.layers.length cp x.layers) : Calls Try.prog 8 #[x.val A cp] w (BytesC x.bytes 0 w) := by
  have hL : x.layers.length ≤ 1000000 := by
    have h1 := hx.layers
    split at h1
    · have := (rightL_of h1).1
      omega
    · rw [h1]
      simp
  have hM := Blk.new w 25 (x.cells A cp)
  have hb0 := below_alloc w (.cells (x.cells A cp) 25)
  have hR := right_ctl x A cp (w.alloc (.cells (x.cells A cp) 25)) (hl.on hb0) hL
  rw [(Ctl.ok_iff x).2 hx] at hR
  have HFB : Hid (∀ n : Int, n ∈ names x.kind → ∀ W, Below w.heap.size w W → Calls Try.prog 20 #[x.val A cp, .int .i64 n] W (OwnOut W (x.fieldB n))) := Lib.hid fun n hn W hb => fieldBytes_any x hx A cp n hn W (hl.on hb)
  have HK := Lib.hid (fieldsOf_any x.kind)
  unfold FieldsOut at HK
  have hkk := hx.kind
  have HBY : Hid (x.bytes = [UInt8.ofNat x.kind.toNat] ++ be ((names x.kind).flatMap x.fieldB).length 2 ++ (names x.kind).flatMap x.fieldB) := Lib.hid (by
    rw [body_names hx]
    simp [Ctl.bytes])
  have HBL : Hid (((names x.kind).flatMap x.fieldB).length ≤ 48) := Lib.hid (by rw [body_names hx]; exact body_len hx)
  generalize x.bytes = R at HBY ⊢
  obtain ⟨L, hLn⟩ : ∃ L, L = names x.kind := ⟨_, rfl⟩
  rw [← hLn] at HFB HK HBY HBL
  obtain ⟨f, hf⟩ : ∃ f, f = x.fieldB := ⟨_, rfl⟩
  rw [← hf] at HFB HBY HBL
  clear hLn hf hl hL hx
  have hik : isK x.kind = true := by simp [isK]; omega
  rw [hik] at HK
  clear hik
  obtain ⟨k, p, l, e, h, s, y, d⟩ := x
  simp only [Ctl.val, Ctl.cells] at hM hb0 HFB HK HBY hkk hR ⊢
  obtain ⟨k, rfl⟩ : ∃ n : Nat, k = (n : Int) := ⟨k.toNat, by omega⟩
  rw [Int.toNat_natCast] at HBY
  have e1 : (k : Int) % 256 = (k : Int) := by omega
  have y1 : IntKind.u8.wrap (k : Int) = (k : Int) := by simp [IntKind.wrap, IntKind.signed, IntKind.bits]; omega
  generalize l.length = m at HFB hM hb0 hR ⊢
  go_enter Try.func8, Try.ntmps8
  go_wp2_with fail
  generalize w.alloc (.cells #[.int .i64 (k : Int), .int .i64 p, .slice A m cp, .int .i64 e, .int .i64 h, .int .i64 s, .int .i64 y, .int .i64 d] 25) = W0 at hM hb0 hR ⊢
  obtain ⟨g, hg⟩ : ∃ g, g = w.heap.size := ⟨_, rfl⟩
  rw [← hg] at hM ⊢
  have HG := Lib.hid hg
  clear hg
  refine hR.mono ?_
  rintro e' W1 ⟨rfl, b1⟩
  have hM := hM.below b1 hM.lt
  have b2 := hb0.trans (b1.mono hb0.size)
  have kc := blk8 hM
  have hgl := hM.lt
  clear b1 hb0 hR
  go_wp2_with fail
  refine (HK.out _).mono ?_
  rintro e' W2 ⟨B, mm, rfl, hRJ, hm3, b3⟩
  have hM := hM.below b3 hgl
  have hgl := hM.lt
  have b4 := b2.trans (b3.mono b2.size)
  have HLn := Lib.hid hRJ.1
  clear b3 b2 kc HK
  have hw2 := b4.size
  have HTK : Hid (∀ (q : Nat) (h : q < L.length), (L.take (q + 1)).flatMap f = (L.take q).flatMap f ++ f L[q]) := Lib.hid fun q h => flat_take f L q h
  have HLE : Hid (∀ q, ((L.take q).flatMap f).length ≤ 48) := Lib.hid fun q => Nat.le_trans (flat_take_len f L q) HBL.out
  obtain ⟨F, hF⟩ : ∃ F : Nat → List UInt8, F = fun q => (L.take q).flatMap f := ⟨_, rfl⟩
  have HTK : Hid (∀ (q : Nat) (h : q < L.length), F (q + 1) = F q ++ f L[q]) := Lib.hid fun q h => by rw [hF]; exact HTK.out q h
  have HLE : Hid (∀ q, (F q).length ≤ 48) := Lib.hid fun q => by rw [hF]; exact HLE.out q
  have HF0 : Hid (F 0 = []) := Lib.hid (by rw [hF]; rfl)
  have HFN : Hid (F mm = L.flatMap f) := Lib.hid (by rw [hF, ← HLn.out]; simp)
  clear hF
  go_wp2_with fail
  go_loopw [5, 9, 24] (fun v _ i wr => ∃ q : Nat, q ≤ mm ∧ i = .int .i64 (q : Int) ∧ Own8 wr W2.heap.size v (F q) ∧ Below W2.heap.size W2 wr) (fun _ _ i _ => mm - (intOf i).toNat)
  case atStart => exact ⟨0, by omega, rfl, by rw [HF0.out]; exact own_nil _ _ _ _, Below.refl _ _⟩
  obtain ⟨q, hq, rfl, ho, hbr⟩ := hrel
  have hbe := b4.trans (hbr.mono hw2)
  have kc := blk8 (hM.below hbr hgl)
  obtain ⟨Ab, cb, hv, rb, fb⟩ := ho.r8n
  subst hv
  clear fb
  have hgl9 : g < wr.heap.size := by have := hbr.size; omega
  by_cases hlt : q < mm
  case neg =>
    have g3 : ¬ (q : Int) < (mm : Int) := by omega
    have hqm : q = mm := by omega
    subst hqm
    have HRE : Hid (R = ([UInt8.ofNat k] ++ be (F q).length 2) ++ F q) := Lib.hid (by rw [HFN.out]; exact HBY.out)
    clear HTK HFB HBY HFN
    have h48 := HLE.out q
    obtain ⟨nF, hnF⟩ : ∃ n, n = (F q).length := ⟨_, rfl⟩
    rw [← hnF] at h48 rb HRE ⊢
    have ho := ho.mono8 (b' := w.heap.size) hw2
    clear hnF HLE HF0
    have e3 : (nF : Int) % 18446744073709551616 = (nF : Int) := by omega
    have y3 : IntKind.u64.wrap (nF : Int) = (nF : Int) := by simp [IntKind.wrap, IntKind.signed, IntKind.bits]; omega
    have b5 := below_alloc wr (.cells #[.int .u8 (k : Int)] 5)
    have r1 := one8_row wr k (by omega)
    have rb5 := rb.on b5
    have b6 := hbe.trans (b5.mono hbe.size)
    clear rb b5 ho hbe hbr
    go_wp2_with fail
    refine (put_yes _ 1 1 _ _ r1 (by omega) nF 2 (by omega) (by omega) (by omega)).mono ?_
    rintro e' w3 ⟨g3, m3, rfl, hm3, hB3, hg3, b7⟩
    have hm3' : m3 = 3 := by unfold Len at hm3; rw [← hm3]; simp [be_len]
    subst hm3'
    have r3 := hB3.r8 (l := [UInt8.ofNat k] ++ be nF 2) (n := 3) (c := 3) (by simp [be_len]) (by omega)
    have rb7 := rb5.on b7
    have b8 := b6.trans (b7.mono b6.size)
    clear b7 b6 r1 rb5 hB3 hg3 hm3
    have hB := Blk.new w3 30 #[.slice (some ⟨g3, 0, none⟩) 3 3, .slice Ab nF cb]
    have b9 := below_alloc w3 (.cells #[.slice (some ⟨g3, 0, none⟩) 3 3, .slice Ab nF cb] 30)
    have HC := Lib.hid (concat2_own w3.heap.size _ _ 3 3 nF cb _ _ _ hB.lt (hB.cell 0) (hB.cell 1) (r3.on b9) (rb7.on b9) (by omega))
    have bA := b8.trans (b9.mono b8.size)
    clear b9 r3 rb7 hB b8
    go_wp2_with fail
    refine HC.out.mono ?_
    rintro e' w4 ⟨v4, rfl, o4, b3⟩
    have o4 := o4.mono8 bA.size
    have bB := bA.trans (b3.mono bA.size)
    clear b3 bA
    go_wp2_with fail
    go_ret2
    exact ⟨v4, rfl, by rw [HRE.out]; exact o4, bB⟩
  have g3 : decide ((q : Int) < (mm : Int)) = true := by simp; omega
  have hql : q < L.length := by rw [HLn.out]; exact hlt
  obtain ⟨b, off, rfl, hbl, k0⟩ := (hRJ.on hbr).at hql
  have hFq := HFB.out L[q] (List.getElem_mem hql) _ hbe
  have HT := Lib.hid (HTK.out q hql)
  have HL1 := Lib.hid (HLE.out (q + 1))
  obtain ⟨v, hv⟩ : ∃ v, v = L[q] := ⟨_, rfl⟩
  rw [← hv] at k0 hFq HT
  clear hv
  generalize f v = Z at hFq HT
  have HZ : Hid ((F q).length + Z.length ≤ 48) := Lib.hid (by have := HL1.out; rwa [HT.out, List.length_append] at this)
  go_wp2_with fail
  refine hFq.mono ?_
  rintro e' w2 ⟨v2, rfl, o2, b5⟩
  obtain ⟨A2, c2, rfl, r2, f2⟩ := o2.r8n
  clear f2
  have b6 := hbr.trans (b5.mono hbr.size)
  have rb5 := rb.on b5
  clear b5 rb o2 hFq kc k0
  obtain ⟨nZ, hZ⟩ : ∃ n, n = Z.length := ⟨_, rfl⟩
  obtain ⟨nF, hF⟩ : ∃ n, n = (F q).length := ⟨_, rfl⟩
  have hZF : nF + nZ ≤ 48 := by rw [hZ, hF]; exact HZ.out
  rw [← hZ] at r2 ⊢
  rw [← hF] at rb5 ⊢
  clear hZ hF
  have hB := Blk.new w2 30 #[.slice Ab nF cb, .slice A2 nZ c2]
  have b7 := below_alloc w2 (.cells #[.slice Ab nF cb, .slice A2 nZ c2] 30)
  have HC := Lib.hid (concat2_own w2.heap.size _ _ nF cb nZ c2 _ _ _ hB.lt (hB.cell 0) (hB.cell 1) (rb5.on b7) (r2.on b7) (by omega))
  have bA := b6.trans (b7.mono b6.size)
  clear b7 r2 rb5 hB b6
  go_wp2_with fail
  refine HC.out.mono ?_
  rintro e' w3 ⟨v3, rfl, o3, b3⟩
  have o3 := o3.mono8 bA.size
  have bB := bA.trans (b3.mono bA.size)
  rw [← HT.out] at o3
  clear b3 bA
  go_wp2_with fail
  go_roundw
  case rel => exact ⟨q + 1, by omega, by go_num, o3, bB⟩
  case measure => simp [intOf]; omega
theorem bytes_ctl (x : Ctl) (A : Option Addr) (cp : Nat) (w : World) (hl : RL w w.heap.size A x.layers.length cp x.layers) (hL : x.layers.length ≤ 1000000) : Calls Try.prog 8 #[x.val A cp] w (BytesC (if x.err = 0 then x.bytes else []) x.err w) := by
  by_cases h : x.err = 0
  · rw [if_pos h, h]
    exact bytes_yes x ((Ctl.ok_iff x).1 h) A cp w hl
  · rw [if_neg h]
    exact bytes_no x h A cp w hl hL
end Go.Proofs.Ytgjncaobcgjefaa.RP
