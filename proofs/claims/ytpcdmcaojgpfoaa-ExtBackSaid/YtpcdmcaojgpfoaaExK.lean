/- Contract: limelightlaw4.known. -/
import Derived.Test.YtpcdmcaojgpfoaaExH
import Derived.Lib.SmallJoins
namespace Go.Proofs.Ytpcdmcaojgpfoaa.RP
open Go.RowKit
set_option linter.unusedVariables false
set_option linter.unusedSimpArgs false
set_option maxRecDepth 20000

theorem k4_err (A : Option Addr) (c : Nat) : elemsErr 48862 [⟨1, A, c, [104, 105]⟩] = 0 := rfl
theorem k4_bytes (A : Option Addr) (c : Nat) : elemsB 48862 [⟨1, A, c, [104, 105]⟩] = [17, 104, 105, 0] := rfl
theorem k4_read : errR 48862 [17, 104, 105, 0] = 0 ∧ outR 48862 [17, 104, 105, 0] = [(1, [104, 105])] := by decide
theorem k4_short : errR 4096 [5, 9, 1, 1] = 13 := by decide
theorem k4_right : right ⟨([104, 105] : List UInt8).toArray⟩ = true := by decide
theorem k4_rid : ridS 48862 [17, 104, 105, 0] = ⟨([104, 105] : List UInt8).toArray⟩ ∧ ridK 48862 [17, 104, 105, 0] = true := by
  have h : ridO 48862 [17, 104, 105, 0] = some [104, 105] := by
    unfold ridO
    rw [if_pos k4_read.1, k4_read.2]
    show (if right ⟨([104, 105] : List UInt8).toArray⟩ = true then some [104, 105] else none) = _
    rw [if_pos k4_right]
  unfold ridS ridK
  rw [h]
  exact ⟨rfl, rfl⟩
/-- A row of one element, as it is laid. -/
theorem re_one (w : World) (id : Int) (A : Option Addr) (c : Nat) (d : List UInt8) (hid : I64 id) (hr : R8 w w.heap.size A d.length c d) :
    RE (w.alloc (.cells #[.int .i64 id, .slice A d.length c] 51)) (w.alloc (.cells #[.int .i64 id, .slice A d.length c] 51)).heap.size (some ⟨w.heap.size, 0, none⟩) 1 1 [⟨id, A, c, d⟩] := by
  have hal : Below w.heap.size w (w.alloc (.cells #[.int .i64 id, .slice A d.length c] 51)) := (Below.refl _ w).alloc (Nat.le_refl _) _
  refine ⟨rfl, Nat.le_refl _, fun e he => ?_, fun _ => ⟨w.heap.size, 0, rfl, by simp, fun j u hj => ?_⟩⟩
  · rw [List.mem_singleton.1 he]
    exact ⟨hid, hr.on hal⟩
  · have := one_elem w ⟨id, A, c, d⟩ j u hj
    have e : (⟨w.heap.size, 0, none⟩ : Addr).add j = ⟨w.heap.size, 0 + j, none⟩ := by unfold Addr.add; split <;> simp_all
    rw [e] at this
    exact this
set_option maxRecDepth 100000 in
set_option maxHeartbeats 2000000 in
theorem known4 (w : World) : Calls Try.prog 23 #[] w (Yes w) := by
  have kc := Go.Joins.run_convert_bytes_const_at (P := Try.prog) w 26 5 #[.int .u8 104, .int .u8 105] 2 2 w.heap.size rfl Try.underlying26 Try.underlying5
  go_enter Try.func23, Try.ntmps23
  go_wp2_with fail
  clear kc
  have r0 := lit_r8 [104, 105] #[.int .u8 104, .int .u8 105] 2 (2, 3) rfl rfl w
  have bX : Below w.heap.size w (w.alloc (.cells #[.int .u8 104, .int .u8 105] 5 (2, 3))) := (Below.refl _ w).alloc (Nat.le_refl _) _
  have sX : (w.alloc (.cells #[.int .u8 104, .int .u8 105] 5 (2, 3))).heap.size = w.heap.size + 1 := by simp
  revert r0 bX sX
  generalize w.alloc (.cells #[.int .u8 104, .int .u8 105] 5 (2, 3)) = X
  intro r0 bX sX
  have hE := re_one X 1 (some ⟨w.heap.size, 0, none⟩) 2 [104, 105] (by unfold I64; omega) r0
  rw [sX] at hE
  have bz : Below X.heap.size X (X.alloc (.cells #[.int .i64 1, .slice (some ⟨w.heap.size, 0, none⟩) ([104, 105] : List UInt8).length 2] 51)) := (Below.refl _ X).alloc (Nat.le_refl _) _
  have b1 := bX.trans (bz.mono bX.size)
  clear bz bX r0 sX
  revert hE b1
  change _ → _ → Calls _ _ _ (X.alloc (.cells #[.int .i64 1, .slice (some ⟨w.heap.size, 0, none⟩) ([104, 105] : List UInt8).length 2] 51)) _
  generalize X.alloc (.cells #[.int .i64 1, .slice (some ⟨w.heap.size, 0, none⟩) ([104, 105] : List UInt8).length 2] 51) = W1
  intro hE b1
  have q := ext_bytes 48862 _ 1 1 [⟨1, some ⟨w.heap.size, 0, none⟩, 2, [104, 105]⟩] W1 hE (by omega) (by simp)
  unfold ElemsRet at q
  rw [k4_err, k4_bytes] at q
  refine q.mono ?_
  rintro e w2 ⟨A1, c1, rfl, r1, b2⟩
  have r1 : R8 w2 w2.heap.size A1 4 c1 [17, 104, 105, 0] := r1
  have b2 := b1.trans (b2.mono b1.size)
  clear q hE b1
  have q := fun W hW => ext_read 48862 A1 4 c1 [17, 104, 105, 0] W (r1.on hW) (by omega)
  unfold ReadOut at q
  rw [k4_read.1, k4_read.2] at q
  go_wp2_with fail
  refine (q _ (Below.refl _ _)).mono ?_
  rintro e w3 ⟨A2, c2, E, rfl, hE, hRE, b3⟩
  have r1 := r1.on b3
  have b3 := b2.trans (b3.mono b2.size)
  clear q b2
  have hl : E.length = 1 := by have := congrArg List.length hE; simpa using this
  rw [hl] at hRE ⊢
  have q := fun W => ext_bytes 0 none 0 0 [] W (RE.nil _ _ _ _) (by omega) (by simp)
  unfold ElemsRet at q
  rw [show elemsErr 0 [] = 1 from rfl, show elemsB 0 [] = [] from rfl] at q
  go_wp2_with fail
  refine (q _).mono ?_
  rintro e w4 ⟨A3, c3, rfl, _, b4⟩
  have r1 := r1.on b4
  have hRE := hRE.on b4
  have b4 := b3.trans (b4.mono b3.size)
  clear q b3
  have q := fun W hW => ext_find A2 1 c2 E 1 W (hRE.on hW) (by omega) (fun e he => by
    have h2 : e.dat ∈ E.map El.dat := List.mem_map_of_mem he
    rw [hE, List.mem_singleton] at h2
    have h3 : e.d = [104, 105] := congrArg Prod.snd h2
    rw [h3]
    simp)
  rw [hE, show fdB [(1, [104, 105])] 1 = [104, 105] from rfl, show fdK [(1, [104, 105])] 1 = true from rfl] at q
  go_wp2_with fail
  refine (q _ (Below.refl _ _)).mono ?_
  rintro e w5 ⟨A4, m4, c4, rfl, r4, b5⟩
  have r1 := r1.on b5
  have b5 := b4.trans (b5.mono b4.size)
  clear q b4 hRE hE hl
  have q := fun W => ext_find none 0 0 [] 1 W (RE.nil _ _ _ _) (by omega) (by simp)
  rw [show fdB (([] : List El).map El.dat) 1 = [] from rfl, show fdK (([] : List El).map El.dat) 1 = false from rfl] at q
  go_wp2_with fail
  refine (q _).mono ?_
  rintro e w6 ⟨A5, m5, c5, rfl, _, b6⟩
  have r1 := r1.on b6
  have r4 := r4.on b6
  have b6 := b5.trans (b6.mono b5.size)
  clear q b5
  have q := fun W hW => ext_rid 48862 A1 4 c1 [17, 104, 105, 0] W (r1.on hW) (by omega)
  unfold RidOut pExt at q
  rw [k4_rid.1, k4_rid.2] at q
  go_wp2_with fail
  refine (q _ (Below.refl _ _)).mono ?_
  rintro e w7 ⟨rfl, b7⟩
  have r1 := r1.on b7
  have r4 := r4.on b7
  have b7 := b6.trans (b7.mono b6.size)
  clear q b6
  go_wp2_with fail
  have rl := lit_r8 [5, 9, 1, 1] #[.int .u8 5, .int .u8 9, .int .u8 1, .int .u8 1] 4 (0, 0) rfl rfl w7
  have bz : Below w7.heap.size w7 (w7.alloc (.cells #[.int .u8 5, .int .u8 9, .int .u8 1, .int .u8 1] 5)) := (Below.refl _ w7).alloc (Nat.le_refl _) _
  have r1 := r1.on bz
  have r4 := r4.on bz
  have b8 := b7.trans (bz.mono b7.size)
  have q := ext_read 4096 _ 4 4 [5, 9, 1, 1] _ rl (by omega)
  unfold ReadOut at q
  rw [k4_short] at q
  clear b7 bz
  refine q.mono ?_
  rintro e w9 ⟨A6, c6, F, rfl, _, _, b9⟩
  have r1 := r1.on b9
  have r4 := r4.on b9
  have b9 := b8.trans (b9.mono b8.size)
  clear q b8 rl
  have s1 := r1.string (P := Try.prog) 26 5 9 Try.underlying26 Try.underlying5 Try.underlying9
  have s4 := r4.string (P := Try.prog) 26 5 9 Try.underlying26 Try.underlying5 Try.underlying9
  clear r1 r4
  go_wp2_with fail
  go_ret
  exact ⟨by simp, b9⟩
end Go.Proofs.Ytpcdmcaojgpfoaa.RP
