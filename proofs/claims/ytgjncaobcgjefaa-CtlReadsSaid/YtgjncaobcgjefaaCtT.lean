/- Contract: (*limelightkeep.Tape).Layers. -/
import Derived.Test.YtgjncaobcgjefaaCtM
import Derived.Test.YtgjncaobcgjefaaNt
import Derived.Test.YtgjncaobcgjefaaRegF
import Derived.Deep.CutRange
namespace Go.Proofs.Ytgjncaobcgjefaa
open Go.RowKit
set_option linter.unusedVariables false
set_option linter.unusedSimpArgs false
set_option maxRecDepth 20000

/-- The names that a tape gives. -/
def nmS (r : Nat) : ByteArray := if r = 0 then ⟨#[108, 111]⟩ else if r = 1 then ⟨#[109, 105, 100]⟩ else ⟨#[72, 73]⟩
def nm3 : Array Value := #[.string ⟨#[108, 111]⟩, .string ⟨#[109, 105, 100]⟩, .string ⟨#[72, 73]⟩]
theorem nmS_at (r : Nat) (h : r < 3) : nm3[r]? = some (.string (nmS r)) := by
  match r, h with
  | 0, _ => rfl
  | 1, _ => rfl
  | 2, _ => rfl
  | j + 3, h => omega
theorem nmS_size (r : Nat) : (nmS r).size ≤ 3 := by
  unfold nmS
  split
  · decide
  · split <;> decide
/-- What a tape's layers are. -/
def TapeL (P : Nat) (l : List Lay) : Prop := ∀ (i : Nat) (h : i < l.length), l[i].rid = nmS i ∧ l[i].ssrc = 100 * P + i + 7 ∧ 180 * ((i : Int) + 1) ≤ l[i].height ∧ l[i].height < 180 * ((i : Int) + 1) + 90
theorem TapeL.nil (P : Nat) : TapeL P [] := fun i h => by simp at h
theorem TapeL.push {P : Nat} {l : List Lay} (h : TapeL P l) {q : Nat} (hq : l.length = q) {r : Int} (h0 : 0 ≤ r) (h1 : r < 90) : TapeL P (l ++ [⟨nmS q, 100 * P + q + 7, 180 * ((q : Int) + 1) + r⟩]) := by
  intro i hi
  by_cases hil : i < l.length
  · rw [List.getElem_append_left hil]
    exact h i hil
  · have hiq : i = l.length := by rw [List.length_append] at hi; simp at hi; omega
    subst hiq
    subst hq
    simp
    omega
theorem tapeL_in {P : Nat} {l : List Lay} (hP : P ≤ 5) (h : TapeL P l) (hl : l.length ≤ 3) : ∀ x ∈ l, x.In := by
  intro x hx
  obtain ⟨i, hi, rfl⟩ := List.getElem_of_mem hx
  obtain ⟨h1, h2, h3, h4⟩ := h i hi
  refine ⟨by rw [h1]; have := nmS_size i; omega, by rw [h2]; omega, by unfold I64; omega⟩
theorem fold_nm : foldB ⟨#[108, 111]⟩ ≠ foldB ⟨#[109, 105, 100]⟩ ∧ foldB ⟨#[108, 111]⟩ ≠ foldB ⟨#[72, 73]⟩ ∧ foldB ⟨#[109, 105, 100]⟩ ≠ foldB ⟨#[72, 73]⟩ := by
  have e1 : foldB ⟨#[108, 111]⟩ = ⟨#[108, 111]⟩ := by kernel_rfl
  have e2 : foldB ⟨#[109, 105, 100]⟩ = ⟨#[109, 105, 100]⟩ := by kernel_rfl
  have e3 : foldB ⟨#[72, 73]⟩ = ⟨#[104, 105]⟩ := by kernel_rfl
  rw [e1, e2, e3]
  decide
theorem right_nm (i : Nat) : right (nmS i) = true := by
  unfold nmS
  split
  · decide
  · split <;> decide
theorem tapeL_right {P : Nat} {l : List Lay} (h : TapeL P l) (h1 : 1 ≤ l.length) (h3 : l.length ≤ 3) : rightL l = true := by
  obtain ⟨f1, f2, f3⟩ := fold_nm
  have hok : ∀ x ∈ l, okL x = true := by
    intro x hx
    obtain ⟨i, hi, rfl⟩ := List.getElem_of_mem hx
    obtain ⟨a1, a2, a3, a4⟩ := h i hi
    simp only [okL, a1, right_nm i, Bool.true_and, decide_eq_true_eq]
    omega
  have hall : l.all okL = true := List.all_eq_true.2 hok
  match l, h1, h3 with
  | [x], _, _ => simp [rightL, rises, pairs, apart, hok x (by simp)]
  | [x, y], _, _ =>
    have a := h 0 (by simp)
    have b := h 1 (by simp)
    simp only [List.getElem_cons_zero, List.getElem_cons_succ] at a b
    have e0 : nmS 0 = ⟨#[108, 111]⟩ := rfl
    have e1 : nmS 1 = ⟨#[109, 105, 100]⟩ := rfl
    have c1 : x.height < y.height := by omega
    have c2 : y.ssrc ≠ x.ssrc := by omega
    simp [rightL, rises, pairs, apart, hok x (by simp), hok y (by simp), c1, c2, a.1, b.1, e0, e1, f1.symm]
  | [x, y, z], _, _ =>
    have a := h 0 (by simp)
    have b := h 1 (by simp)
    have d := h 2 (by simp)
    simp only [List.getElem_cons_zero, List.getElem_cons_succ] at a b d
    have e0 : nmS 0 = ⟨#[108, 111]⟩ := rfl
    have e1 : nmS 1 = ⟨#[109, 105, 100]⟩ := rfl
    have e2 : nmS 2 = ⟨#[72, 73]⟩ := rfl
    have c1 : x.height < y.height := by omega
    have c1' : y.height < z.height := by omega
    have c2 : y.ssrc ≠ x.ssrc := by omega
    have c3 : z.ssrc ≠ x.ssrc := by omega
    have c4 : z.ssrc ≠ y.ssrc := by omega
    simp [rightL, rises, pairs, apart, hok x (by simp), hok y (by simp), hok z (by simp), c1, c1', c2, c3, c4, a.1, b.1, d.1, e0, e1, e2, f1.symm, f2.symm, f3.symm]
/-! ### Beside a tape -/
theorem RX.moves {w w' : World} {g n c size : Nat} {A : Option Addr} {vs : List Value} (h : RX w w.heap.size A n c size vs) (hm : Moves g w w') (hA : ∀ ad, A = some ad → ad.block ≠ g) : RX w' w'.heap.size A n c size vs :=
  ⟨h.1, h.2.1, fun hn => by
    obtain ⟨b, off, e, hlt, hc⟩ := h.2.2 hn
    refine ⟨b, off, e, by have := hm.below.size; omega, fun j v hj => ?_⟩
    rw [← hc j v hj]
    exact World.cell?_of_block (hm.other b hlt (hA _ e))⟩
theorem RL.moves {w w' : World} {g n c : Nat} {A : Option Addr} {l : List Lay} (h : RL w w.heap.size A n c l) (hm : Moves g w w') (hA : ∀ ad, A = some ad → ad.block ≠ g) : RL w' w'.heap.size A n c l := ⟨h.1, h.2.1, h.2.2.moves hm hA⟩
/-- What stands while a tape is read. -/
def tpF (g : Nat) (wr : World) : Frame where
  I := fun W => TapeAt W g ∧ wr.heap.size ≤ W.heap.size
  Fr := Moves g
  refl := fun w h => Moves.of h.1 (Below.refl _ _)
  trans := fun a b c h k => h.trans k
  drew := fun W h => ⟨⟨h.1.on (below_drewN _ W 1), h.2⟩, Moves.of h.1 (below_drewN _ W 1)⟩
def nmC (g : Nat) (wr : World) : ClF (tpF g wr) := .pred (fun v W => ∃ b, v = .slice (some ⟨b, 0, none⟩) 3 3 ∧ wr.heap.size ≤ b ∧ b ≠ g ∧ Blk W b 9 nm3) (fun v a b _ hf _ h => by
  obtain ⟨k, e, h1, h2, h3⟩ := h
  exact ⟨k, e, h1, h2, (hf.other k h3.lt h2).trans h3⟩)
theorem nmC_of {g : Nat} {wr : World} {c : ClF (tpF g wr)} {v : Value} {W : World} (h : c.holds v W) (e : c = nmC g wr) : ∃ b, v = .slice (some ⟨b, 0, none⟩) 3 3 ∧ wr.heap.size ≤ b ∧ b ≠ g ∧ Blk W b 9 nm3 := by subst e; exact h
def npC (g : Nat) (wr : World) (q : Nat) : ClF (tpF g wr) := .pred (fun v W => ∃ b, v = .pointer (some ⟨b, q, none⟩) ∧ wr.heap.size ≤ b ∧ b ≠ g ∧ Blk W b 9 nm3) (fun v a b _ hf _ h => by
  obtain ⟨k, e, h1, h2, h3⟩ := h
  exact ⟨k, e, h1, h2, (hf.other k h3.lt h2).trans h3⟩)
theorem npC_of {g : Nat} {wr : World} {q : Nat} {c : ClF (tpF g wr)} {v : Value} {W : World} (h : c.holds v W) (e : c = npC g wr q) : ∃ b, v = .pointer (some ⟨b, q, none⟩) ∧ wr.heap.size ≤ b ∧ b ≠ g ∧ Blk W b 9 nm3 := by subst e; exact h
def rdC (g : Nat) (wr : World) (b : Int) : ClF (tpF g wr) := .pred (fun v _ => ∃ r : Int, 0 ≤ r ∧ r < 90 ∧ v = .int .i64 (b + r)) (fun _ _ _ _ _ _ h => h)
theorem rdC_of {g : Nat} {wr : World} {b : Int} {c : ClF (tpF g wr)} {v : Value} {W : World} (h : c.holds v W) (e : c = rdC g wr b) : ∃ r : Int, 0 ≤ r ∧ r < 90 ∧ v = .int .i64 (b + r) := by subst e; exact h
def lvC (g : Nat) (wr : World) (s : ByteArray) (n : Nat) (b : Int) : ClF (tpF g wr) := .pred (fun v _ => ∃ r : Int, 0 ≤ r ∧ r < 90 ∧ v = .agg #[.string s, .int .u32 (n : Int), .int .i64 (b + r)]) (fun _ _ _ _ _ _ h => h)
theorem lvC_of {g : Nat} {wr : World} {s : ByteArray} {n : Nat} {b : Int} {c : ClF (tpF g wr)} {v : Value} {W : World} (h : c.holds v W) (e : c = lvC g wr s n b) : ∃ r : Int, 0 ≤ r ∧ r < 90 ∧ v = .agg #[.string s, .int .u32 (n : Int), .int .i64 (b + r)] := by subst e; exact h
def lsC (g : Nat) (wr : World) (s : ByteArray) (n : Nat) (b : Int) : ClF (tpF g wr) := .pred (fun v W => ∃ (r : Int) (k : Nat), 0 ≤ r ∧ r < 90 ∧ v = .slice (some ⟨k, 0, none⟩) 1 1 ∧ wr.heap.size ≤ k ∧ k ≠ g ∧ RL W W.heap.size (some ⟨k, 0, none⟩) 1 1 [⟨s, n, b + r⟩]) (fun v a d _ hf _ h => by
  obtain ⟨r, k, h0, h1, e, h2, h3, h4⟩ := h
  exact ⟨r, k, h0, h1, e, h2, h3, h4.moves hf fun ad he => by injection he with he; subst he; exact h3⟩)
theorem lsC_of {g : Nat} {wr : World} {s : ByteArray} {n : Nat} {b : Int} {c : ClF (tpF g wr)} {v : Value} {W : World} (h : c.holds v W) (e : c = lsC g wr s n b) : ∃ (r : Int) (k : Nat), 0 ≤ r ∧ r < 90 ∧ v = .slice (some ⟨k, 0, none⟩) 1 1 ∧ wr.heap.size ≤ k ∧ k ≠ g ∧ RL W W.heap.size (some ⟨k, 0, none⟩) 1 1 [⟨s, n, b + r⟩] := by subst e; exact h
/-- Layers that may be, in new memory. -/
def LayersOut (g P : Nat) (w : World) (e : Ending) (w' : World) : Prop :=
  ∃ A c l, e = .returned (.slice A l.length c) ∧ TapeL P l ∧ 1 ≤ l.length ∧ l.length ≤ 3 ∧ RL w' w'.heap.size A l.length c l ∧ Moves g w w' ∧ ∀ ad, A = some ad → w.heap.size ≤ ad.block
set_option maxHeartbeats 8000000 in
theorem tape_layers (g P : Nat) (w : World) (hT : TapeAt w g) (hP : P ≤ 5) : Calls Try.prog 13 #[.pointer (some ⟨g, 0, none⟩), .int .i64 (P : Int)] w (LayersOut g P w) := by
  have hg := hT.lt
  go_enter Try.func13, Try.ntmps13
  go_wp2_with fail
  go_loopw [5, 6] (fun v i wr => ∃ (q : Nat) (acc : List Lay), i = .int .i64 (q : Int) ∧ acc.length = q ∧ q ≤ 3 ∧ TapeL P acc ∧ OwnL wr w.heap.size v acc ∧ Moves g w wr) (fun _ i _ => 3 - (intOf i).toNat)
  case atStart => exact ⟨0, [], rfl, rfl, by omega, TapeL.nil P, OwnL.nil _ _, Moves.of hT (Below.refl _ _)⟩
  case round =>
    obtain ⟨q, acc, rfl, hal, hq, htl, hown, hm⟩ := hrel
    have HAL := Lib.hid hal
    clear hal
    go_wp2_with fail
    refine (next_any g 3 _ hm.tape (by unfold I64; omega)).mono ?_
    rintro e w2 ⟨r2, rfl, hr20, hr21, hm2⟩
    have ho2 : OwnL w2 w.heap.size u5 acc := own_moves hown hg hm2
    have hmw := hm.trans hm2
    clear hown hm hm2
    obtain ⟨hown, hm⟩ : OwnL w2 w.heap.size u5 acc ∧ Moves g w w2 := ⟨ho2, hmw⟩
    clear ho2 hmw
    by_cases hqr : (q : Int) ≤ r2
    · have hq3 : q < 3 := by omega
      have hq3' : (q : Int) < 3 := by omega
      have hw19 : IntKind.i64.wrap (100 * (P : Int)) = 100 * (P : Int) := IntWalk.i64_in _ (by omega)
      have hw21 : IntKind.i64.wrap (100 * (P : Int) + (q : Int)) = 100 * (P : Int) + (q : Int) := IntWalk.i64_in _ (by omega)
      have hw22 : IntKind.i64.wrap (100 * (P : Int) + (q : Int) + 7) = 100 * (P : Int) + (q : Int) + 7 := IntWalk.i64_in _ (by omega)
      have hw23 : IntKind.u32.wrap (100 * (P : Int) + (q : Int) + 7) = 100 * (P : Int) + (q : Int) + 7 := by rw [IntKind.wrap_u32]; omega
      have hw25 : IntKind.i64.wrap ((q : Int) + 1) = (q : Int) + 1 := IntWalk.i64_in _ (by omega)
      have hw26 : IntKind.i64.wrap (180 * ((q : Int) + 1)) = 180 * ((q : Int) + 1) := IntWalk.i64_in _ (by omega)
      have hin : ∀ r : Int, 0 ≤ r → r < 90 → (⟨nmS q, 100 * P + q + 7, 180 * ((q : Int) + 1) + r⟩ : Lay).In := fun r h0 h1 => ⟨by have := nmS_size q; show (nmS q).size ≤ _; omega, by show 100 * P + q + 7 < _; omega, by show I64 (180 * ((q : Int) + 1) + r); unfold I64; omega⟩
      have hal3 : acc.length ≤ 3 := by have := HAL.out; omega
      go_upto_region 5 with (fail)
      obtain ⟨Ax, cx, rfl, hrx, _⟩ := hown.rl (tapeL_in hP htl hal3)
      refine wp_region_ft (F := tpF g w2) 19 [.val (.slice Ax acc.length cx), nmC g w2, .val (.int .i64 (q : Int)), npC g w2 q, .val (.string (nmS q)), .val (.int .i64 (P : Int)), .val (.int .i64 (100 * (P : Int))), .val (.int .i64 (q : Int)), .val (.int .i64 (100 * (P : Int) + (q : Int))), .val (.int .i64 (100 * (P : Int) + (q : Int) + 7)), .val (.int .u32 ((100 * P + q + 7 : Nat) : Int)), .val (.int .i64 (q : Int)), .val (.int .i64 ((q : Int) + 1)), .val (.int .i64 (180 * ((q : Int) + 1))), .val (.pointer (some ⟨g, 0, none⟩)), rdC g w2 0, rdC g w2 (180 * ((q : Int) + 1)), lvC g w2 (nmS q) (100 * P + q + 7) (180 * ((q : Int) + 1)), lsC g w2 (nmS q) (100 * P + q + 7) (180 * ((q : Int) + 1))]
        (by kernel_rfl) (by kernel_rfl) (by kernel_rfl) (by decide) (by kernel_rfl) ⟨hm.tape, Nat.le_refl _⟩ (AllOblF.upto ⟨?_, ?_, ?_, ?_, ?_, ?_, ?_, ?_, ?_, ?_, ?_, ?_, ?_, ?_, ?_, ?_, ?_, ?_, ?_, trivial⟩) ?_
      · exact OblF.move rfl _ (Or.inl rfl) (by kernel_rfl) rfl
      · refine OblF.step rfl fun ev W hI hf hx => ?_
        have k1 : ev (.const (.string ⟨#[108, 111]⟩)) = .string ⟨#[108, 111]⟩ := holds_valF (hx (.const (.string ⟨#[108, 111]⟩))) (by kernel_rfl)
        have k2 : ev (.const (.string ⟨#[109, 105, 100]⟩)) = .string ⟨#[109, 105, 100]⟩ := holds_valF (hx (.const (.string ⟨#[109, 105, 100]⟩))) (by kernel_rfl)
        have k3 : ev (.const (.string ⟨#[72, 73]⟩)) = .string ⟨#[72, 73]⟩ := holds_valF (hx (.const (.string ⟨#[72, 73]⟩))) (by kernel_rfl)
        have hbW := (Below.refl W.heap.size W).alloc (Nat.le_refl _) (.cells #[.string ⟨#[108, 111]⟩, .string ⟨#[109, 105, 100]⟩, .string ⟨#[72, 73]⟩] 9)
        refine ⟨.slice (some ⟨W.heap.size, 0, none⟩) 3 3, W.alloc (.cells #[.string ⟨#[108, 111]⟩, .string ⟨#[109, 105, 100]⟩, .string ⟨#[72, 73]⟩] 9), ?_, ?_, ?_, ?_⟩
        · simp [execOp, k1, k2, k3, go_sem]
        · exact ⟨hI.1.on hbW, Nat.le_trans hI.2 hbW.size⟩
        · exact Moves.of hI.1 hbW
        · exact ⟨W.heap.size, rfl, hI.2, Nat.ne_of_gt hI.1.lt, Blk.new _ _ _⟩
      · exact OblF.move rfl _ (Or.inl rfl) (by kernel_rfl) rfl
      · refine OblF.step rfl fun ev W hI hf hx => ?_
        obtain ⟨b, e14, hb1, hb2, hg⟩ := nmC_of (hx (.tmp 14)) (by kernel_rfl)
        have e15 : ev (.tmp 15) = .int .i64 (q : Int) := holds_valF (hx (.tmp 15)) (by kernel_rfl)
        refine ⟨.pointer (some ⟨b, q, none⟩), W, ?_, hI, Moves.of hI.1 (Below.refl _ _), ⟨b, rfl, hb1, hb2, hg⟩⟩
        simp [execOp, e14, e15, go_sem, hq3, hq3']
      · refine OblF.pure rfl (.string (nmS q)) (by kernel_rfl) rfl fun ev W hI hf hx => ?_
        obtain ⟨b, e16, hb1, hb2, hg⟩ := npC_of (q := q) (hx (.tmp 16)) (by kernel_rfl)
        have hc := (hg.cell q).trans (nmS_at q hq3)
        simp [execOp, e16, go_sem, hc]
      · exact OblF.move rfl _ (Or.inl rfl) (by kernel_rfl) rfl
      · refine OblF.pure rfl (.int .i64 (100 * (P : Int))) (by kernel_rfl) rfl fun ev W hI hf hx => ?_
        have e18 : ev (.tmp 18) = .int .i64 (P : Int) := holds_valF (hx (.tmp 18)) (by kernel_rfl)
        have k0 : ev (.const (.int .i64 100)) = .int .i64 100 := holds_valF (hx (.const (.int .i64 100))) (by kernel_rfl)
        simp [execOp, e18, k0, go_sem, hw19]
      · exact OblF.move rfl _ (Or.inl rfl) (by kernel_rfl) rfl
      · refine OblF.pure rfl (.int .i64 (100 * (P : Int) + (q : Int))) (by kernel_rfl) rfl fun ev W hI hf hx => ?_
        have e19 : ev (.tmp 19) = .int .i64 (100 * (P : Int)) := holds_valF (hx (.tmp 19)) (by kernel_rfl)
        have e20 : ev (.tmp 20) = .int .i64 (q : Int) := holds_valF (hx (.tmp 20)) (by kernel_rfl)
        simp [execOp, e19, e20, go_sem, hw21]
      · refine OblF.pure rfl (.int .i64 (100 * (P : Int) + (q : Int) + 7)) (by kernel_rfl) rfl fun ev W hI hf hx => ?_
        have e21 : ev (.tmp 21) = .int .i64 (100 * (P : Int) + (q : Int)) := holds_valF (hx (.tmp 21)) (by kernel_rfl)
        have k0 : ev (.const (.int .i64 7)) = .int .i64 7 := holds_valF (hx (.const (.int .i64 7))) (by kernel_rfl)
        simp [execOp, e21, k0, go_sem, hw22]
      · refine OblF.pure rfl (.int .u32 ((100 * P + q + 7 : Nat) : Int)) (by kernel_rfl) rfl fun ev W hI hf hx => ?_
        have e22 : ev (.tmp 22) = .int .i64 (100 * (P : Int) + (q : Int) + 7) := holds_valF (hx (.tmp 22)) (by kernel_rfl)
        simp [execOp, e22, go_sem, hw23]
      · exact OblF.move rfl _ (Or.inl rfl) (by kernel_rfl) rfl
      · refine OblF.pure rfl (.int .i64 ((q : Int) + 1)) (by kernel_rfl) rfl fun ev W hI hf hx => ?_
        have e24 : ev (.tmp 24) = .int .i64 (q : Int) := holds_valF (hx (.tmp 24)) (by kernel_rfl)
        have k0 : ev (.const (.int .i64 1)) = .int .i64 1 := holds_valF (hx (.const (.int .i64 1))) (by kernel_rfl)
        simp [execOp, e24, k0, go_sem, hw25]
      · refine OblF.pure rfl (.int .i64 (180 * ((q : Int) + 1))) (by kernel_rfl) rfl fun ev W hI hf hx => ?_
        have e25 : ev (.tmp 25) = .int .i64 ((q : Int) + 1) := holds_valF (hx (.tmp 25)) (by kernel_rfl)
        have k0 : ev (.const (.int .i64 180)) = .int .i64 180 := holds_valF (hx (.const (.int .i64 180))) (by kernel_rfl)
        simp [execOp, e25, k0, go_sem, hw26]
      · exact OblF.move rfl _ (Or.inl rfl) (by kernel_rfl) rfl
      · refine OblF.call rfl 17 #[.tmp 27, .const (.int .i64 90)] _ rfl Try.f17 Try.func17 (by kernel_rfl) (by kernel_rfl) rfl fun ev W hI hf hx => ?_
        have e27 : ev (.tmp 27) = .pointer (some ⟨g, 0, none⟩) := holds_valF (hx (.tmp 27)) (by kernel_rfl)
        have k0 : ev (.const (.int .i64 90)) = .int .i64 90 := holds_valF (hx (.const (.int .i64 90))) (by kernel_rfl)
        simp only [List.map_toArray, List.map_cons, List.map_nil, e27, k0]
        refine (next_any g 90 W hI.1 (by unfold I64; omega)).mono ?_
        rintro e W' ⟨r, rfl, hr0, hr1, hm⟩
        exact ⟨_, rfl, ⟨hm.tape, Nat.le_trans hI.2 hm.below.size⟩, hm, r, by omega, by omega, by rw [Int.zero_add]⟩
      · refine OblF.step rfl fun ev W hI hf hx => ?_
        have e26 : ev (.tmp 26) = .int .i64 (180 * ((q : Int) + 1)) := holds_valF (hx (.tmp 26)) (by kernel_rfl)
        obtain ⟨r, hr0, hr1, e28⟩ := rdC_of (b := 0) (hx (.tmp 28)) (by kernel_rfl)
        rw [Int.zero_add] at e28
        have hw29 : IntKind.i64.wrap (180 * ((q : Int) + 1) + r) = 180 * ((q : Int) + 1) + r := IntWalk.i64_in _ (by omega)
        refine ⟨.int .i64 (180 * ((q : Int) + 1) + r), W, ?_, hI, Moves.of hI.1 (Below.refl _ _), r, hr0, hr1, rfl⟩
        simp [execOp, e26, e28, go_sem, hw29]
      · refine OblF.step rfl fun ev W hI hf hx => ?_
        have e17 : ev (.tmp 17) = .string (nmS q) := holds_valF (hx (.tmp 17)) (by kernel_rfl)
        have e23 : ev (.tmp 23) = .int .u32 ((100 * P + q + 7 : Nat) : Int) := holds_valF (hx (.tmp 23)) (by kernel_rfl)
        obtain ⟨r, hr0, hr1, e29⟩ := rdC_of (b := 180 * ((q : Int) + 1)) (hx (.tmp 29)) (by kernel_rfl)
        refine ⟨.agg #[.string (nmS q), .int .u32 ((100 * P + q + 7 : Nat) : Int), .int .i64 (180 * ((q : Int) + 1) + r)], W, ?_, hI, Moves.of hI.1 (Below.refl _ _), r, hr0, hr1, rfl⟩
        simp [execOp, e17, e23, e29, go_sem]
      · refine OblF.step rfl fun ev W hI hf hx => ?_
        obtain ⟨r, hr0, hr1, e30⟩ := lvC_of (s := nmS q) (n := 100 * P + q + 7) (b := 180 * ((q : Int) + 1)) (hx (.tmp 30)) (by kernel_rfl)
        have hbW := (Below.refl W.heap.size W).alloc (Nat.le_refl _) (.cells #[.string (nmS q), .int .u32 ((100 * P + q + 7 : Nat) : Int), .int .i64 (180 * ((q : Int) + 1) + r)] 46)
        refine ⟨.slice (some ⟨W.heap.size, 0, none⟩) 1 1, W.alloc (.cells #[.string (nmS q), .int .u32 ((100 * P + q + 7 : Nat) : Int), .int .i64 (180 * ((q : Int) + 1) + r)] 46), ?_, ?_, ?_, ?_⟩
        · simp [execOp, e30, go_sem]
        · exact ⟨hI.1.on hbW, Nat.le_trans hI.2 hbW.size⟩
        · exact Moves.of hI.1 hbW
        · exact ⟨r, W.heap.size, hr0, hr1, rfl, hI.2, Nat.ne_of_gt hI.1.lt, (one_rl W ⟨nmS q, 100 * P + q + 7, 180 * ((q : Int) + 1) + r⟩ (hin r hr0 hr1)).more (by simp)⟩
      intro aa W hI hf hsz hdf hold hv
      have v13 : aa.tmps.getD 13 undef = .slice Ax acc.length cx := holds_valF (hv 0 (by decide)) (by kernel_rfl)
      obtain ⟨r, g31, hr0, hr1, v31, hg1, hg2, r31⟩ := lsC_of (s := nmS q) (n := 100 * P + q + 7) (b := 180 * ((q : Int) + 1)) (hv 18 (by decide)) (by kernel_rfl)
      have v31' : aa.tmps.getD 31 undef = .slice (some ⟨g31, 0, none⟩) 1 1 := v31
      have ha := act_puts [13, 14, 15, 16, 17, 18, 19, 20, 21, 22, 23, 24, 25, 26, 27, 28, 29, 30, 31, 32, 5] (by kernel_rfl) hsz hdf hold
      simp only [putAll, v13, v31'] at ha
      generalize aa.tmps.getD 14 undef = x14 at ha
      generalize aa.tmps.getD 15 undef = x15 at ha
      generalize aa.tmps.getD 16 undef = x16 at ha
      generalize aa.tmps.getD 17 undef = x17 at ha
      generalize aa.tmps.getD 18 undef = x18 at ha
      generalize aa.tmps.getD 19 undef = x19 at ha
      generalize aa.tmps.getD 20 undef = x20 at ha
      generalize aa.tmps.getD 21 undef = x21 at ha
      generalize aa.tmps.getD 22 undef = x22 at ha
      generalize aa.tmps.getD 23 undef = x23 at ha
      generalize aa.tmps.getD 24 undef = x24 at ha
      generalize aa.tmps.getD 25 undef = x25 at ha
      generalize aa.tmps.getD 26 undef = x26 at ha
      generalize aa.tmps.getD 27 undef = x27 at ha
      generalize aa.tmps.getD 28 undef = x28 at ha
      generalize aa.tmps.getD 29 undef = x29 at ha
      generalize aa.tmps.getD 30 undef = x30 at ha
      generalize aa.tmps.getD 32 undef = x32 at ha
      generalize aa.tmps.getD 5 undef = x5 at ha
      clear v13 v31 v31' hv hold hsz hdf
      subst ha
      simp only [List.toList_toArray, List.drop_succ_cons, List.drop_zero, Act.put, List.setIfInBounds_toArray, List.set_cons_succ, List.set_cons_zero]
      have hm3 := hm.trans ((Moves.of hm.tape (below_drewN _ w2 1)).trans hf)
      have o5 : OwnL W w.heap.size (.slice Ax acc.length cx) acc := own_moves (own_moves hown hg (Moves.of hm.tape (below_drewN _ w2 1))) hg hf
      have hbs := hm3.below.size
      have hbs5 : w.heap.size ≤ W.heap.size := hbs
      have hll : Hid (acc.length + 1 ≤ 1000000) := Lib.hid (by omega)
      have htl2 := Lib.hid (htl.push HAL.out hr0 hr1)
      clear hI hf hm hown hrx hw19 hw21 hw22 hw23 hw25 hw26 hin htl
      go_wp2_with (at_builtin; go_loud (with_reducible refine wpList_appendL rfl (.tmp 13) (.tmp 31) rfl rfl w.heap.size (.slice Ax acc.length cx) acc (by with_unfolding_all rfl) o5 W.heap.size (some ⟨g31, 0, none⟩) 1 1 [⟨nmS q, 100 * P + q + 7, 180 * ((q : Int) + 1) + r⟩] (by with_unfolding_all rfl) r31 hll.out hbs5 ?_); intro v9 w9 ha9)
      have hb9 := below_grown (Below.refl w.heap.size W) hbs5 ha9.2 (fun k hk => (World.ownsRow.lt o5 k hk).1)
      have hm9 := hm3.and hg hb9
      have o9 := ha9.1
      have hl9 := Lib.hid (show (acc ++ [(⟨nmS q, 100 * P + q + 7, 180 * ((q : Int) + 1) + r⟩ : Lay)]).length = q + 1 by rw [List.length_append, HAL.out]; rfl)
      clear ha9 o5 r31 hm3 hb9
      go_roundw
      case rel => exact ⟨q + 1, acc ++ [⟨nmS q, 100 * P + q + 7, 180 * ((q : Int) + 1) + r⟩], by go_num, hl9.out, by omega, htl2.out, o9, hm9⟩
      case measure => simp [intOf]; omega
    · obtain ⟨Ax, cx, rfl, hrx, hbx⟩ := hown.rl (tapeL_in hP htl (by have := HAL.out; omega))
      have h1 : 1 ≤ acc.length := by have := HAL.out; omega
      have h3 : acc.length ≤ 3 := by have := HAL.out; omega
      have HR := Lib.hid hrx
      have HB := Lib.hid hbx
      clear hrx hbx hown
      go_wp2_with fail
      go_ret
      exact ⟨Ax, cx, acc, rfl, htl, h1, h3, HR.out, hm, HB.out⟩
end Go.Proofs.Ytgjncaobcgjefaa
