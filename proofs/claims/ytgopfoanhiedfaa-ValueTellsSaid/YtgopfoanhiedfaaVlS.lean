/- The walk of layer 7's law ValueTells. -/
import Derived.Test.YtgopfoanhiedfaaVlK
import Derived.Test.YtgopfoanhiedfaaVlL
import Derived.Test.YtgopfoanhiedfaaRegF
namespace Go.Proofs.Ytgopfoanhiedfaa
open Go.RowKit
set_option linter.unusedVariables false
set_option linter.unusedSimpArgs false
set_option maxRecDepth 20000

/-- What stands in a region that keeps all that was. -/
def keepV (w : World) : Frame where
  I := fun W => Below w.heap.size w W
  Fr := fun a b => Below a.heap.size a b
  refl := fun w _ => Below.refl _ w
  trans := fun a b c h k => h.trans (k.mono h.size)
  drew := fun W h => ⟨h.trans ((belowN _ W 1).mono h.size), belowN _ W 1⟩
/-- The three names. -/
def selS (r : Nat) : ByteArray := if r = 0 then ⟨#[108, 111]⟩ else if r = 1 then ⟨#[109, 105, 100]⟩ else ⟨#[72, 73]⟩
def three : Array Value := #[.string ⟨#[108, 111]⟩, .string ⟨#[109, 105, 100]⟩, .string ⟨#[72, 73]⟩]
theorem selS_at (r : Nat) (h : r < 3) : three[r]? = some (.string (selS r)) := by
  match r, h with
  | 0, _ => rfl
  | 1, _ => rfl
  | 2, _ => rfl
  | j + 3, h => omega
theorem selS_size (r : Nat) : (selS r).size ≤ 3 := by
  unfold selS
  split
  · decide
  · split <;> decide
def strsC (w : World) : ClF (keepV w) := .pred (fun v W => ∃ g, v = .slice (some ⟨g, 0, none⟩) 3 3 ∧ Blk W g 9 three) (fun v a b _ hf _ h => by
  obtain ⟨g, e, hr⟩ := h
  exact ⟨g, e, hr.below hf hr.lt⟩)
theorem strs_of {w : World} {c : ClF (keepV w)} {v : Value} {W : World} (h : c.holds v W) (e : c = strsC w) : ∃ g, v = .slice (some ⟨g, 0, none⟩) 3 3 ∧ Blk W g 9 three := by subst e; exact h
def ptrC (w : World) (r : Nat) : ClF (keepV w) := .pred (fun v W => ∃ g, v = .pointer (some ⟨g, r, none⟩) ∧ Blk W g 9 three) (fun v a b _ hf _ h => by
  obtain ⟨g, e, hr⟩ := h
  exact ⟨g, e, hr.below hf hr.lt⟩)
theorem ptr_of {w : World} {r : Nat} {c : ClF (keepV w)} {v : Value} {W : World} (h : c.holds v W) (e : c = ptrC w r) : ∃ g, v = .pointer (some ⟨g, r, none⟩) ∧ Blk W g 9 three := by subst e; exact h
def layC (w : World) (x : Lay) : ClF (keepV w) := .pred (fun v W => ∃ g, v = .slice (some ⟨g, 0, none⟩) 1 1 ∧ RL W W.heap.size (some ⟨g, 0, none⟩) 1 1 [x]) (fun v a b _ hf _ h => by
  obtain ⟨g, e, hr⟩ := h
  exact ⟨g, e, hr.on hf⟩)
theorem lay_of {w : World} {x : Lay} {c : ClF (keepV w)} {v : Value} {W : World} (h : c.holds v W) (e : c = layC w x) : ∃ g, v = .slice (some ⟨g, 0, none⟩) 1 1 ∧ RL W W.heap.size (some ⟨g, 0, none⟩) 1 1 [x] := by subst e; exact h
theorem bits_and1023 (n : Int) : ∃ k : Nat, bits .and .i64 n 1023 = (k : Int) ∧ k ≤ 1023 := by
  have h : (BitVec.ofInt 64 n &&& BitVec.ofInt 64 1023).toNat ≤ 1023 := by
    rw [BitVec.toNat_and, show (BitVec.ofInt 64 1023).toNat = 1023 by decide]
    exact Nat.and_le_right
  refine ⟨(BitVec.ofInt 64 n &&& BitVec.ofInt 64 1023).toNat, ?_, h⟩
  show IntKind.i64.wrap ((BitVec.ofInt 64 n &&& BitVec.ofInt 64 1023).toNat : Int) = _
  rw [IntKind.wrap_i64]
  omega
theorem bits_and65535 (n : Int) : ∃ k : Nat, bits .and .i64 n 65535 = (k : Int) ∧ k ≤ 65535 := by
  have h : (BitVec.ofInt 64 n &&& BitVec.ofInt 64 65535).toNat ≤ 65535 := by
    rw [BitVec.toNat_and, show (BitVec.ofInt 64 65535).toNat = 65535 by decide]
    exact Nat.and_le_right
  refine ⟨(BitVec.ofInt 64 n &&& BitVec.ofInt 64 65535).toNat, ?_, h⟩
  show IntKind.i64.wrap ((BitVec.ofInt 64 n &&& BitVec.ofInt 64 65535).toNat : Int) = _
  rw [IntKind.wrap_i64]
  omega
theorem blk_grown {w w' : World} {g : Nat} {t : TypeId} {cs : Array Value} {row : Option Nat} (h : Blk w g t cs) (hg : w.grownBy w' row) (hn : row ≠ some g) : Blk w' g t cs := (hg.block g h.lt fun e => hn e.symm).trans h
theorem cut_size (a : ByteArray) (n : Nat) : (a.extract 0 n).size ≤ n := by rw [ByteArray.size_extract]; omega
theorem RL.take_ {w : World} {B n c : Nat} {A : Option Addr} {l : List Lay} (h : RL w B A n c l) (k : Nat) (hk : k ≤ n) : RL w B A k c (l.take k) := by
  have hl := h.1
  have hc := h.2.2.2.1
  refine ⟨by rw [List.length_take]; omega, fun x hx => h.2.1 x (List.mem_of_mem_take hx), by rw [cellsL_len, List.length_take]; congr 1; omega, by omega, fun hp => ?_⟩
  obtain ⟨b, off, rfl, hb, hcell⟩ := h.2.2.2.2 (by omega)
  refine ⟨b, off, rfl, hb, fun j v hj => hcell j v ?_⟩
  have e : cellsL l = cellsL (l.take k) ++ cellsL (l.drop k) := by rw [← cellsL_app, List.take_append_drop]
  rw [e, List.getElem?_append_left (List.getElem?_eq_some_iff.1 hj).1]
  exact hj
theorem run_toL (A : Option Addr) (n c k : Nat) (i : Int) (hi : i = (k : Int)) (hk : k ≤ c) (w : World) :
    (Instr.slice 29 (.slice A n c) none (some (.int .i64 i)) none).run Try.prog w = .ok (.slice A k c) w := by
  subst hi
  have e : (if c = 0 then A else A.map (·.add 0)) = A := by
    split
    · rfl
    · cases A with
      | none => rfl
      | some a => simp [Addr.add]
  have hs : (Try.prog.elem 29) = 28 := by simp [Program.elem, Try.underlying29]
  have h3 := run_slice_h (P := Try.prog) w 29 A n c (by rw [hs]; exact Try.underlying29) .i64 (k : Nat) (by omega) (by omega)
  rw [hs] at h3
  obtain ⟨i0, hi0, hz0, hz1, hz2⟩ := info_parts lay_info
  rw [h3]
  simp [sizeOf, typeInfo, hi0, hz1, sliced, Result.andThen, e]
set_option maxHeartbeats 8000000 in
theorem valueTells_walk (n m r : Int) (u : Nat) (s : ByteArray) (bb : Bool) (x : Lay) (A : Option Addr) (k c : Nat) (many : List Lay) (w : World) (hn : I64 n) (hm : I64 m) (hr0 : -2147483648 ≤ r) (hr1 : r ≤ 2147483647) (hu : u < 4294967296) (hs : s.size ≤ 140737488351232) (hx : x.In) (h : RL w w.heap.size A k c many) (hk : k ≤ 1000000000000000) :
    Calls Try.prog 4 #[.int .i64 n, .int .i64 m, .int .i32 r, .int .u32 (u : Int), .string s, .bool bb, x.val, .slice A k c] w (Yes w) := by
  have HN := Lib.hid hn
  have HM := Lib.hid hm
  have HX := Lib.hid hx
  have H0 := Lib.hid h
  have hkc := h.2.2.2.1
  clear hn hm hx h
  go_enter Try.func4, Try.ntmps4
  go_upto_if 21 with (fail)
  go_cut [4] from 19 to 24 (fun s4 wc => ∃ X : ByteArray, X.size ≤ 60 ∧ s4 = .string X ∧ wc = w.alloc (.cells #[.string x.rid, .int .u32 (x.ssrc : Int), .int .i64 x.height] 28))
  case first =>
    have sz := cut_size s 60
    by_cases ga : 60 < s.size
    · go_wp2_with fail
      go_meet
      case rel => exact ⟨_, sz, rfl, rfl⟩
    · go_wp2_with fail
      go_meet
      case rel => exact ⟨s, by omega, rfl, rfl⟩
  case rest =>
    obtain ⟨X, hX, rfl, rfl⟩ := hcut
    go_upto_if 26 with (fail)
    go_cut [7] from 24 to 29 (fun s7 wc => ∃ (k2 : Nat) (l2 : List Lay), k2 ≤ 5 ∧ s7 = .slice A k2 c ∧ RL w w.heap.size A k2 c l2 ∧ wc = w.alloc (.cells #[.string x.rid, .int .u32 (x.ssrc : Int), .int .i64 x.height] 28))
    case first =>
      by_cases ga : 5 < k
      · have hcut := fun W => run_toL A k c 5 5 rfl (by omega) W
        have ga' : (5 : Int) < (k : Int) := by omega
        go_wp2_with fail
        go_meet
        case rel => exact ⟨5, _, by omega, rfl, H0.out.take_ 5 (by omega), rfl⟩
      · have ga' : ¬ (5 : Int) < (k : Int) := by omega
        go_wp2_with fail
        go_meet
        case rel => exact ⟨k, many, by omega, rfl, H0.out, rfl⟩
    case rest =>
      obtain ⟨k2, l2, hk2, rfl, hr, rfl⟩ := hcut
      clear H0 hkc hk
      obtain ⟨k, hkk⟩ : ∃ k', k' = k2 := ⟨k2, rfl⟩
      subst hkk
      have hkc := hr.2.2.2.1
      have hb0 := below_alloc w (.cells #[.string x.rid, .int .u32 (x.ssrc : Int), .int .i64 x.height] 28)
      have gx := Blk.new w 28 #[.string x.rid, .int .u32 (x.ssrc : Int), .int .i64 x.height]
      generalize hW0 : w.alloc (.cells #[.string x.rid, .int .u32 (x.ssrc : Int), .int .i64 x.height] 28) = Wc at hb0 gx ⊢
      generalize hG : w.heap.size = G at gx ⊢
      have HG := Lib.hid hG
      have HW0 := Lib.hid hW0
      have HR := Lib.hid hr
      have hGw : w.heap.size ≤ Wc.heap.size := hb0.size
      have hGl := gx.lt
      clear hG hW0 hr
      --LOOP
      go_wp2_with fail
      go_loopw [17, 31] (fun v i wr => ∃ (q : Nat) (acc : List Lay), q ≤ k ∧ i = .int .i64 q ∧ acc.length = q ∧ (∀ y ∈ acc, y.In) ∧ OwnL wr Wc.heap.size v acc ∧ Below w.heap.size w wr ∧ Wc.heap.size ≤ wr.heap.size ∧ Hid (Blk wr G 28 #[.string x.rid, .int .u32 (x.ssrc : Int), .int .i64 x.height])) (fun _ i _ => k - (intOf i).toNat)
      case atStart => exact ⟨0, [], Nat.zero_le _, rfl, rfl, by simp, OwnL.nil _ _, hb0, Nat.le_refl _, Lib.hid gx⟩
      case round =>
        obtain ⟨q, acc, hq, rfl, hal, hacc, hown, hb, hws, HB⟩ := hrel
        have hsz := hb.size
        have HAL := Lib.hid hal
        clear hal
        by_cases hlt : q < k
        · have hql : q < l2.length := by rw [HR.out.1]; exact hlt
          obtain ⟨b, off, hA, hbl, a0, a1, a2⟩ := HR.out.at hql
          have c1 := (hb.cell (p := ⟨b, off + q * 3 + 1, none⟩) hbl).trans a1
          have c2 := (hb.cell (p := ⟨b, off + q * 3 + 2, none⟩) hbl).trans a2
          have hyi := HR.out.2.1 _ (List.getElem_mem hql)
          have hys := hyi.ssrc
          clear a0 a1 a2 hyi
          generalize (l2[q]).ssrc = z at c1 hys
          generalize (l2[q]).height = hh at c2
          clear hql
          have hbW : b < wr.heap.size := by omega
          obtain ⟨q3, hq3e⟩ : ∃ q3, q3 = q % 3 := ⟨_, rfl⟩
          have hq3l : q3 < 3 := by omega
          have hq3l' : (q3 : Int) < 3 := by omega
          have hq3 : (q : Int).tmod 3 = (q3 : Int) := by rw [Int.tmod_eq_emod_of_nonneg (by omega)]; omega
          have hq3b : (q : Int) % 3 = (q3 : Int) := by omega
          obtain ⟨ka, hka, hka1⟩ := bits_and1023 hh
          have hw51 : IntKind.i64.wrap ((ka : Int) + 1024) = (ka : Int) + 1024 := IntWalk.i64_in _ (by omega)
          have hw52 : ((ka : Int) + 1024).tmod 1024 = (ka : Int) := by rw [Int.tmod_eq_emod_of_nonneg (by omega)]; omega
          have hw53 : IntKind.i64.wrap (1 + (ka : Int)) = 1 + (ka : Int) := IntWalk.i64_in _ (by omega)
          have hyin : (⟨selS q3, z, 1 + (ka : Int)⟩ : Lay).In := ⟨by have := selS_size q3; show (selS q3).size ≤ _; omega, hys, by show I64 (1 + (ka : Int)); unfold I64; omega⟩
          have hqk : (q : Int) < (k : Int) := by omega
          subst hA
          go_upto_region 9 with (fail)
          obtain ⟨Ax, cx, rfl, hrx, _⟩ := hown.rl hacc
          refine wp_region_ft (F := keepV wr) 22 [.val (.slice Ax acc.length cx), strsC wr, .val (.int .i64 (q : Int)), .val (.int .i64 ((q3 : Nat) : Int)), ptrC wr q3, .val (.string (selS q3)), .val (.slice (some ⟨b, off, none⟩) k c), .val (.int .i64 (q : Int)), .val (.pointer (some ⟨b, off + q * 3, none⟩)), .val (.pointer (some ⟨b, off + q * 3 + 1, none⟩)), .val (.int .u32 (z : Int)), .val (.slice (some ⟨b, off, none⟩) k c), .val (.int .i64 (q : Int)), .val (.pointer (some ⟨b, off + q * 3, none⟩)), .val (.pointer (some ⟨b, off + q * 3 + 2, none⟩)), .val (.int .i64 hh), .val (.int .i64 (ka : Int)), .val (.int .i64 ((ka : Int) + 1024)), .val (.int .i64 (ka : Int)), .val (.int .i64 (1 + (ka : Int))), .val (.agg #[.string (selS q3), .int .u32 (z : Int), .int .i64 (1 + (ka : Int))]), layC wr ⟨selS q3, z, 1 + (ka : Int)⟩]
            (by kernel_rfl) (by kernel_rfl) (by kernel_rfl) (by decide) (by kernel_rfl) (Below.refl _ _) (AllOblF.upto ⟨?_, ?_, ?_, ?_, ?_, ?_, ?_, ?_, ?_, ?_, ?_, ?_, ?_, ?_, ?_, ?_, ?_, ?_, ?_, ?_, ?_, ?_, trivial⟩) ?_
          · exact OblF.move rfl _ (Or.inl rfl) (by kernel_rfl) rfl
          · refine OblF.step rfl fun ev W hI hf hx => ?_
            have k1 : ev (.const (.string ⟨#[108, 111]⟩)) = .string ⟨#[108, 111]⟩ := holds_valF (hx (.const (.string ⟨#[108, 111]⟩))) (by kernel_rfl)
            have k2 : ev (.const (.string ⟨#[109, 105, 100]⟩)) = .string ⟨#[109, 105, 100]⟩ := holds_valF (hx (.const (.string ⟨#[109, 105, 100]⟩))) (by kernel_rfl)
            have k3 : ev (.const (.string ⟨#[72, 73]⟩)) = .string ⟨#[72, 73]⟩ := holds_valF (hx (.const (.string ⟨#[72, 73]⟩))) (by kernel_rfl)
            refine ⟨.slice (some ⟨W.heap.size, 0, none⟩) 3 3, W.alloc (.cells #[.string ⟨#[108, 111]⟩, .string ⟨#[109, 105, 100]⟩, .string ⟨#[72, 73]⟩] 9), ?_, ?_, ?_, ?_⟩
            · simp [execOp, k1, k2, k3, go_sem]
            · exact Below.trans hI (((Below.refl W.heap.size W).alloc (Nat.le_refl _) _).mono (Below.size hI))
            · exact (Below.refl W.heap.size W).alloc (Nat.le_refl _) _
            · exact ⟨W.heap.size, rfl, Blk.new _ _ _⟩
          · exact OblF.move rfl _ (Or.inl rfl) (by kernel_rfl) rfl
          · refine OblF.pure rfl (.int .i64 ((q3 : Nat) : Int)) (by kernel_rfl) rfl fun ev W hI hf hx => ?_
            have e36 : ev (.tmp 36) = .int .i64 (q : Int) := holds_valF (hx (.tmp 36)) (by kernel_rfl)
            have k0 : ev (.const (.int .i64 3)) = .int .i64 3 := holds_valF (hx (.const (.int .i64 3))) (by kernel_rfl)
            simp [execOp, e36, k0, go_sem, hq3]
          · refine OblF.step rfl fun ev W hI hf hx => ?_
            obtain ⟨g, e35, hg⟩ := strs_of (hx (.tmp 35)) (by kernel_rfl)
            have e37 : ev (.tmp 37) = .int .i64 ((q3 : Nat) : Int) := holds_valF (hx (.tmp 37)) (by kernel_rfl)
            refine ⟨.pointer (some ⟨g, q3, none⟩), W, ?_, hI, Below.refl _ _, ⟨g, rfl, hg⟩⟩
            simp [execOp, e35, e37, go_sem, hq3l, hq3l']
          · refine OblF.pure rfl (.string (selS q3)) (by kernel_rfl) rfl fun ev W hI hf hx => ?_
            obtain ⟨g, e38, hg⟩ := ptr_of (r := q3) (hx (.tmp 38)) (by kernel_rfl)
            have hc := (hg.cell q3).trans (selS_at q3 hq3l)
            simp [execOp, e38, go_sem, hc]
          · exact OblF.move rfl _ (Or.inl rfl) (by kernel_rfl) rfl
          · exact OblF.move rfl _ (Or.inl rfl) (by kernel_rfl) rfl
          · refine OblF.pure rfl (.pointer (some ⟨b, off + q * 3, none⟩)) (by kernel_rfl) rfl fun ev W hI hf hx => ?_
            have e40 : ev (.tmp 40) = .slice (some ⟨b, off, none⟩) k c := holds_valF (hx (.tmp 40)) (by kernel_rfl)
            have e41 : ev (.tmp 41) = .int .i64 (q : Int) := holds_valF (hx (.tmp 41)) (by kernel_rfl)
            simp [execOp, e40, e41, go_sem, hqk]
          · refine OblF.pure rfl (.pointer (some ⟨b, off + q * 3 + 1, none⟩)) (by kernel_rfl) rfl fun ev W hI hf hx => ?_
            have e42 : ev (.tmp 42) = .pointer (some ⟨b, off + q * 3, none⟩) := holds_valF (hx (.tmp 42)) (by kernel_rfl)
            simp [execOp, e42, go_sem]
          · refine OblF.pure rfl (.int .u32 (z : Int)) (by kernel_rfl) rfl fun ev W hI hf hx => ?_
            have e43 : ev (.tmp 43) = .pointer (some ⟨b, off + q * 3 + 1, none⟩) := holds_valF (hx (.tmp 43)) (by kernel_rfl)
            have d := (Below.cell (p := ⟨b, off + q * 3 + 1, none⟩) hI hbW).trans c1
            simp [execOp, e43, go_sem, d]
          · exact OblF.move rfl _ (Or.inl rfl) (by kernel_rfl) rfl
          · exact OblF.move rfl _ (Or.inl rfl) (by kernel_rfl) rfl
          · refine OblF.pure rfl (.pointer (some ⟨b, off + q * 3, none⟩)) (by kernel_rfl) rfl fun ev W hI hf hx => ?_
            have e45 : ev (.tmp 45) = .slice (some ⟨b, off, none⟩) k c := holds_valF (hx (.tmp 45)) (by kernel_rfl)
            have e46 : ev (.tmp 46) = .int .i64 (q : Int) := holds_valF (hx (.tmp 46)) (by kernel_rfl)
            simp [execOp, e45, e46, go_sem, hqk]
          · refine OblF.pure rfl (.pointer (some ⟨b, off + q * 3 + 2, none⟩)) (by kernel_rfl) rfl fun ev W hI hf hx => ?_
            have e47 : ev (.tmp 47) = .pointer (some ⟨b, off + q * 3, none⟩) := holds_valF (hx (.tmp 47)) (by kernel_rfl)
            simp [execOp, e47, go_sem]
          · refine OblF.pure rfl (.int .i64 hh) (by kernel_rfl) rfl fun ev W hI hf hx => ?_
            have e48 : ev (.tmp 48) = .pointer (some ⟨b, off + q * 3 + 2, none⟩) := holds_valF (hx (.tmp 48)) (by kernel_rfl)
            have d := (Below.cell (p := ⟨b, off + q * 3 + 2, none⟩) hI hbW).trans c2
            simp [execOp, e48, go_sem, d]
          · refine OblF.pure rfl (.int .i64 (ka : Int)) (by kernel_rfl) rfl fun ev W hI hf hx => ?_
            have e49 : ev (.tmp 49) = .int .i64 hh := holds_valF (hx (.tmp 49)) (by kernel_rfl)
            have k0 : ev (.const (.int .i64 1023)) = .int .i64 1023 := holds_valF (hx (.const (.int .i64 1023))) (by kernel_rfl)
            simp [execOp, e49, k0, go_sem, hka]
          · refine OblF.pure rfl (.int .i64 ((ka : Int) + 1024)) (by kernel_rfl) rfl fun ev W hI hf hx => ?_
            have e50 : ev (.tmp 50) = .int .i64 (ka : Int) := holds_valF (hx (.tmp 50)) (by kernel_rfl)
            have k0 : ev (.const (.int .i64 1024)) = .int .i64 1024 := holds_valF (hx (.const (.int .i64 1024))) (by kernel_rfl)
            simp [execOp, e50, k0, go_sem, hw51]
          · refine OblF.pure rfl (.int .i64 (ka : Int)) (by kernel_rfl) rfl fun ev W hI hf hx => ?_
            have e51 : ev (.tmp 51) = .int .i64 ((ka : Int) + 1024) := holds_valF (hx (.tmp 51)) (by kernel_rfl)
            have k0 : ev (.const (.int .i64 1024)) = .int .i64 1024 := holds_valF (hx (.const (.int .i64 1024))) (by kernel_rfl)
            simp [execOp, e51, k0, go_sem, hw52]
          · refine OblF.pure rfl (.int .i64 (1 + (ka : Int))) (by kernel_rfl) rfl fun ev W hI hf hx => ?_
            have e52 : ev (.tmp 52) = .int .i64 (ka : Int) := holds_valF (hx (.tmp 52)) (by kernel_rfl)
            have k0 : ev (.const (.int .i64 1)) = .int .i64 1 := holds_valF (hx (.const (.int .i64 1))) (by kernel_rfl)
            simp [execOp, e52, k0, go_sem, hw53]
          · refine OblF.pure rfl (.agg #[.string (selS q3), .int .u32 (z : Int), .int .i64 (1 + (ka : Int))]) (by kernel_rfl) rfl fun ev W hI hf hx => ?_
            have e39 : ev (.tmp 39) = .string (selS q3) := holds_valF (hx (.tmp 39)) (by kernel_rfl)
            have e44 : ev (.tmp 44) = .int .u32 (z : Int) := holds_valF (hx (.tmp 44)) (by kernel_rfl)
            have e53 : ev (.tmp 53) = .int .i64 (1 + (ka : Int)) := holds_valF (hx (.tmp 53)) (by kernel_rfl)
            simp [execOp, e39, e44, e53, go_sem]
          · refine OblF.step rfl fun ev W hI hf hx => ?_
            have e54 : ev (.tmp 54) = .agg #[.string (selS q3), .int .u32 (z : Int), .int .i64 (1 + (ka : Int))] := holds_valF (hx (.tmp 54)) (by kernel_rfl)
            refine ⟨.slice (some ⟨W.heap.size, 0, none⟩) 1 1, W.alloc (.cells #[.string (selS q3), .int .u32 (z : Int), .int .i64 (1 + (ka : Int))] 28), ?_, ?_, ?_, ?_⟩
            · simp [execOp, e54, go_sem]
            · exact Below.trans hI (((Below.refl W.heap.size W).alloc (Nat.le_refl _) _).mono (Below.size hI))
            · exact (Below.refl W.heap.size W).alloc (Nat.le_refl _) _
            · exact ⟨W.heap.size, rfl, (one_rl W ⟨selS q3, z, 1 + (ka : Int)⟩ hyin).more (by simp)⟩
          intro aa W hI hf hsz hdf hold hv
          have v34 : aa.tmps.getD 34 undef = .slice Ax acc.length cx := holds_valF (hv 0 (by decide)) (by kernel_rfl)
          obtain ⟨g55, v55, r55⟩ := lay_of (x := ⟨selS q3, z, 1 + (ka : Int)⟩) (hv 21 (by decide)) (by kernel_rfl)
          have v55' : aa.tmps.getD 55 undef = .slice (some ⟨g55, 0, none⟩) 1 1 := v55
          have ha := act_puts [34, 35, 36, 37, 38, 39, 40, 41, 42, 43, 44, 45, 46, 47, 48, 49, 50, 51, 52, 53, 54, 55, 56, 17] (by kernel_rfl) hsz hdf hold
          simp only [putAll, v34, v55'] at ha
          generalize aa.tmps.getD 35 undef = x35 at ha
          generalize aa.tmps.getD 36 undef = x36 at ha
          generalize aa.tmps.getD 37 undef = x37 at ha
          generalize aa.tmps.getD 38 undef = x38 at ha
          generalize aa.tmps.getD 39 undef = x39 at ha
          generalize aa.tmps.getD 40 undef = x40 at ha
          generalize aa.tmps.getD 41 undef = x41 at ha
          generalize aa.tmps.getD 42 undef = x42 at ha
          generalize aa.tmps.getD 43 undef = x43 at ha
          generalize aa.tmps.getD 44 undef = x44 at ha
          generalize aa.tmps.getD 45 undef = x45 at ha
          generalize aa.tmps.getD 46 undef = x46 at ha
          generalize aa.tmps.getD 47 undef = x47 at ha
          generalize aa.tmps.getD 48 undef = x48 at ha
          generalize aa.tmps.getD 49 undef = x49 at ha
          generalize aa.tmps.getD 50 undef = x50 at ha
          generalize aa.tmps.getD 51 undef = x51 at ha
          generalize aa.tmps.getD 52 undef = x52 at ha
          generalize aa.tmps.getD 53 undef = x53 at ha
          generalize aa.tmps.getD 54 undef = x54 at ha
          generalize aa.tmps.getD 56 undef = x56 at ha
          generalize aa.tmps.getD 17 undef = x17 at ha
          clear v34 v55 v55' hv hold hsz hdf
          subst ha
          simp only [List.toList_toArray, List.drop_succ_cons, List.drop_zero, Act.put, List.setIfInBounds_toArray, List.set_cons_succ, List.set_cons_zero]
          have b5 := hb.trans (Below.mono hI hsz)
          have hws5 : Wc.heap.size ≤ W.heap.size := Nat.le_trans hws (Below.size hI)
          have o5 := OwnL.on hown hI
          have hbb : Hid (acc.length + 1 ≤ 1000000) := Lib.hid (by have := HAL.out; omega)
          have HBW := Lib.hid (HB.out.below hI HB.out.lt)
          have hacc2 : ∀ y ∈ acc ++ [⟨selS q3, z, 1 + (ka : Int)⟩], y.In := fun y hy => by
            rcases List.mem_append.1 hy with hy | hy
            · exact hacc y hy
            · rw [List.mem_singleton.1 hy]; exact hyin
          have HA2 := Lib.hid hacc2
          clear hI hf hrx hown hb c1 c2 hq3 hq3b hw51 hw52 hw53 hka hka1 HB hacc hacc2 hyin
          go_wp2_with (at_builtin; go_loud (with_reducible refine wpList_appendL rfl (.tmp 34) (.tmp 55) rfl rfl Wc.heap.size (.slice Ax acc.length cx) acc (by with_unfolding_all rfl) o5 W.heap.size (some ⟨g55, 0, none⟩) 1 1 [⟨selS q3, z, 1 + (ka : Int)⟩] (by with_unfolding_all rfl) r55 hbb.out hws5 ?_); intro v9 w9 ha9)
          have b9 := below_grown b5 b5.size ha9.2 (fun k hk => by have := (World.ownsRow.lt o5 k hk).1; omega)
          have HB9 := Lib.hid (blk_grown HBW.out ha9.2 (fun e => by have := (World.ownsRow.lt o5 _ e).1; omega))
          have hws9 := Nat.le_trans hws5 ha9.2.size
          have o9 := ha9.1
          clear ha9 o5 r55 b5 HBW
          go_roundw
          case rel => exact ⟨q + 1, acc ++ [⟨selS q3, z, 1 + (ka : Int)⟩], by omega, by go_num, by rw [List.length_append, HAL.out]; rfl, HA2.out, o9, b9, hws9, HB9⟩
          case measure => simp [intOf]; omega
        · have hqk : q = k := by omega
          subst hqk
          obtain ⟨Ax, cx, rfl, hrx, _⟩ := hown.rl hacc
          obtain ⟨k1, hk1, hk1l⟩ := bits_and65535 n
          obtain ⟨m1, hm1, hm1l⟩ := bits_and1023 m
          have d1 := fun W => values_any n r u X bb W HN.out hr0 hr1 hu (by omega)
          have d2 := fun (W : World) (hW : Below w.heap.size w W) => lay_law X n m x A q c l2 W (by omega) HN.out HM.out HX.out (RL.more (RL.below HR.out hW) hW.size) hk2
          have d3 : ∀ (W : World), Below wr.heap.size wr W → Calls Try.prog 7 #[.string ⟨#[108, 111]⟩, .int .i64 (k1 : Int), .int .i64 (1 + (m1 : Int)), .agg #[.string ⟨#[104, 105]⟩, .int .u32 (u : Int), .int .i64 9], .slice Ax acc.length cx] W (Yes W) := fun W hW => lay_law ⟨#[108, 111]⟩ (k1 : Int) (1 + (m1 : Int)) ⟨⟨#[104, 105]⟩, u, 9⟩ Ax acc.length cx acc W (by decide) (i64_of _ (by omega)) (i64_of _ (by omega)) ⟨by show (⟨#[104, 105]⟩ : ByteArray).size ≤ 140737488355328; decide, hu, i64_of 9 (by omega)⟩ (hrx.on hW) (by have := HAL.out; omega)
          have D2 := Lib.hid d2
          have D3 := Lib.hid d3
          clear d2 d3 hrx hown hacc HAL hlt hq
          generalize acc.length = na at D3 ⊢
          go_wp2_with fail
          refine (d1 _).mono ?_
          rintro e w1 ⟨rfl, b1⟩
          clear d1
          have gx1 := HB.out.below b1 HB.out.lt
          have kx := (blk3 gx1).1
          have lx := gx1.lt
          have y1 := hb.trans (b1.mono hb.size)
          clear gx1 HB
          go_wp2_with fail
          refine (D2.out _ y1).mono ?_
          rintro e w2 ⟨rfl, b2⟩
          have q2 := b1.trans (b2.mono b1.size)
          clear b1 b2 y1 D2 kx lx
          go_wp2_with fail
          refine (D3.out _ q2).mono ?_
          rintro e w3 ⟨rfl, b3⟩
          have q3 := q2.trans (b3.mono q2.size)
          clear b3 q2 D3
          go_wp2_with fail
          refine (known_any _).mono ?_
          rintro e w4 ⟨rfl, b4⟩
          have q4 := q3.trans (b4.mono q3.size)
          clear b4 q3
          go_wp2_with fail
          go_ret
          exact ⟨rfl, hb.trans (q4.mono hb.size)⟩
end Go.Proofs.Ytgopfoanhiedfaa
