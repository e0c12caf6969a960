/- append of so many noughts onto a row of bytes that the call owns (append(s, make([]byte, k)...)). No program's function. RtcpRates' walk. -/
import Derived.Test.YtnchgmemajmkjaaBase
import Derived.Lib.AppendZerosOnto
import Derived.Test.YtnchgmemajmkjaaMe
import Derived.Test.YtnchgmemajmkjaaMf
namespace Go.Proofs.Ytnchgmemajmkjaa
open Go.RowKit
set_option linter.unusedVariables false
set_option linter.unusedSimpArgs false
set_option maxRecDepth 20000

theorem zeroCells_zl (k : Nat) : Builtin.zeroCells (Value.int .u8 0).cells k = ((List.replicate k (0 : UInt8)).map bv).toArray := by
  apply Array.ext
  · simp [Builtin.zeroCells, Value.cells]
  · intro i h1 h2
    have : i % 1 = 0 := Nat.mod_one i
    simp [Builtin.zeroCells, Value.cells, bv, this]
set_option maxHeartbeats 1000000 in
theorem run_append_zeros8 (w : World) (base : Nat) (v : Value) (l : List UInt8) (hown : Own8 w base v l) (k : Nat) (hk0 : 0 < k) (hk : l.length + k ≤ 1000000) (hbase : base ≤ w.heap.size) (ty : TypeId) :
    ∃ v' w', (Builtin.append_ #[31, 3] ty #[v, .int .i64 (k : Int)]).run Try.prog w = .ok v' w' ∧ App8 w base v (l ++ List.replicate k 0) v' w' := by
  obtain ⟨i0, hi0, hz0, hz1, hz2⟩ := info_parts u8_info
  have grown : ∀ (old : Nat), old < l.length + k → ∀ (row : Option Nat),
      Own8 (w.drew.alloc (.cells ((l.map bv).toArray ++ Builtin.zeroCells (Value.int .u8 0).cells k ++ Builtin.zeroCells (Value.int .u8 0).cells (grownCap w (l.length + k) old 5 - (l.length + k))) 5)) base (.slice (some ⟨w.heap.size, 0, none⟩) (l.length + k) (grownCap w (l.length + k) old 5)) (l ++ List.replicate k 0) ∧
      w.grownBy (w.drew.alloc (.cells ((l.map bv).toArray ++ Builtin.zeroCells (Value.int .u8 0).cells k ++ Builtin.zeroCells (Value.int .u8 0).cells (grownCap w (l.length + k) old 5 - (l.length + k))) 5)) row := by
    intro old ho row
    have hge := grownCap_ge w (l.length + k) old 5
    have hcm := grownCap_le_maxLen w (l.length + k) old 5 (by unfold maxLen; omega)
    have hll : (l ++ List.replicate k (0 : UInt8)).length = l.length + k := by simp
    refine ⟨⟨by simp, .inr ⟨w.heap.size, _, _, by rw [hll], hbase, heap_alloc_new w.drew _, by omega, hcm, ?_, ?_⟩⟩, ⟨rfl, rfl, rfl, by simp, fun j hj _ => heap_alloc_old w.drew _ hj⟩⟩
    · simp [Builtin.zeroCells, Value.cells]
      omega
    · rw [zeroCells_zl, hll, Nat.mul_one]
      simp only [Array.toList_append, List.append_assoc]
      rw [← List.append_assoc, List.map_append]
      have : l.length + k = ((l.map bv) ++ (List.replicate k (0 : UInt8)).map bv).length := by simp
      rw [this]
      exact List.take_left
  have hwk : IntKind.i64.wrap (k : Int) = k := by rw [IntKind.wrap_i64]; omega
  rcases hown.2 with ⟨rfl, hn⟩ | ⟨g, cap, cur, rfl, hbg, hg, hnc, hcm, hcs, htake⟩
  · have hl : l = [] := List.eq_nil_of_length_eq_zero hn
    subst hl
    have hold : (Builtin.firstCells i0.size 0 (.slice none 0 0)).run Try.prog w.drew = .ok ([] : List Value).toArray w.drew := run_firstCells_none w.drew i0.size 0 0 0
    have hr := Lib.run_append_grow_zeros (P := Try.prog) w 31 3 ty 5 i0 _ .i64 .i64 Try.underlying31 Try.underlying3 hi0 hz0 none 0 0 [] hold k hk0 (by omega) (by omega) (by omega) (by rw [hz2]; omega)
      (by rw [hz2]; exact growslice_fits (by omega) (by omega))
    have hgr := grown 0 (by simp; omega) (Value.ownBlock (.slice none 0 0))
    simp only [List.length_nil, Nat.zero_add, List.map_nil, List.nil_append] at hgr hr ⊢
    exact ⟨_, _, hr, hgr.1, hgr.2, Or.inr rfl⟩
  · rw [Nat.mul_one] at hcs htake
    by_cases hroom : l.length + k ≤ cap
    · have hnk : k ≠ 0 := by omega
      have hl1 : ((List.replicate k (0 : UInt8)).map bv).length = k := by simp
      have hst := run_storeCells_at Try.prog g l.length 5 ((List.replicate k (0 : UInt8)).map bv) 0 cur w hg (by rw [hl1]; omega) (bv_one _)
      simp only [Nat.add_zero, hl1] at hst
      have h48i : ¬ (281474976710656 < (k : Int)) := by omega
      have hneg : ¬ ((k : Int) < 0) := by omega
      obtain ⟨Z, hZ⟩ : ∃ Z, (List.replicate k (0 : UInt8)).map bv = Z := ⟨_, rfl⟩
      have hzc : Builtin.zeroCells (Value.int .u8 0).cells k = Z.toArray := by rw [zeroCells_zl, hZ]
      rw [hZ] at hst hl1
      have hr : (Builtin.append_ #[31, 3] ty #[.slice (some ⟨g, 0, none⟩) l.length cap, .int .i64 (k : Int)]).run Try.prog w = .ok (.slice (some ⟨g, 0, none⟩) (l.length + k) cap) (w.setRow g (cur.toList.take l.length ++ Z ++ cur.toList.drop (l.length + k)).toArray) := by
        simp [Builtin.append_, run_underlying Try.underlying31, run_underlying Try.underlying3, sizeOf, typeInfo, zeroValue, hi0, hz0, hz1, hz2, asInt, asIntOf, hwk, hneg, h48i, hnk, hroom, hzc, Addr.add_lit, hst]
      refine ⟨_, _, hr, ⟨by simp, .inr ⟨g, cap, _, by simp, hbg, setRow_heap w g cur _ 5 _ hg, by simp; omega, hcm, ?_, ?_⟩⟩, ⟨rfl, rfl, rfl, by simp, fun j _ hj => setRow_other w g j _ (fun e => hj (by simp [Value.ownBlock, e]))⟩, Or.inl rfl⟩
      · simp
        omega
      · rw [htake, List.length_append, List.length_replicate, Nat.mul_one, List.map_append, ← hZ]
        have : l.length + k = ((l.map bv) ++ (List.replicate k (0 : UInt8)).map bv).length := by simp
        rw [this]
        exact List.take_left
    · have holds : ∀ j u, (l.map bv)[j]? = some u → w.cell? ((⟨g, 0, none⟩ : Addr).add j) = some u := World.ownsRow.cells hown (g := g) rfl
      have hold : (Builtin.firstCells i0.size l.length (.slice (some ⟨g, 0, none⟩) l.length cap)).run Try.prog w.drew = .ok (l.map bv).toArray w.drew := run_firstCells_some w.drew i0.size l.length ⟨g, 0, none⟩ l.length cap (l.map bv) (by rw [hz1]; simp) holds
      have hr := Lib.run_append_grow_zeros (P := Try.prog) w 31 3 ty 5 i0 _ .i64 .i64 Try.underlying31 Try.underlying3 hi0 hz0 (some ⟨g, 0, none⟩) l.length cap (l.map bv) hold k hk0 (by omega) (by omega) (by omega) (by rw [hz2]; omega)
        (by rw [hz2]; exact growslice_fits (by omega) (by omega))
      have hgr := grown cap (by omega) (Value.ownBlock (.slice (some ⟨g, 0, none⟩) l.length cap))
      exact ⟨_, _, hr, hgr.1, hgr.2, Or.inr rfl⟩
theorem wpList_append_zeros8 {w : World} {ops : Array Oper} {rest : List Oper} {o : Oper} {a : Act} {Q : Exit → Act → World → Prop} (hgd : o.guard = none) (s x : Operand)
    (ho : o.op = .call { callee := .builtin .append, args := #[s, x], argTypes := #[31, 3] })
    (base : Nat) (v : Value) (l : List UInt8) (hs : a.eval s = v) (hown : Own8 w base v l) (k : Nat) (hx : a.eval x = .int .i64 (k : Int)) (hk0 : 0 < k) (hk : l.length + k ≤ 1000000) (hbase : base ≤ w.heap.size)
    (h : ∀ v' w', App8 w base v (l ++ List.replicate k 0) v' w' → wpList Try.prog ops Q rest (a.put o.dst v') w') : wpList Try.prog ops Q (o :: rest) a w :=
  wpList_plain hgd fun K hK => by
    obtain ⟨v', w', hrun, h2⟩ := run_append_zeros8 w base v l hown k hk0 hk hbase o.type
    unfold Oper.wp execOp
    simp only [ho, resolve, invoke, builtin, Sem.run_bind, Sem.run_pure, Result.andThen_ok, List.map_toArray, List.map_cons, List.map_nil, hs, hx, hrun]
    exact hK _ _ (h v' w' h2)
end Go.Proofs.Ytnchgmemajmkjaa
namespace Go.Proofs.Ytnchgmemajmkjaa.RP
open Go.RowKit
set_option linter.unusedVariables false
set_option linter.unusedSimpArgs false
set_option maxRecDepth 20000

theorem r6_and31 (n : Int) : ∃ k : Nat, bits .and .i64 n 31 = (k : Int) ∧ k ≤ 31 := by
  have h : (BitVec.ofInt 64 n &&& BitVec.ofInt 64 31).toNat ≤ 31 := by
    rw [BitVec.toNat_and, show (BitVec.ofInt 64 31).toNat = 31 by decide]
    exact Nat.and_le_right
  refine ⟨(BitVec.ofInt 64 n &&& BitVec.ofInt 64 31).toNat, ?_, h⟩
  show IntKind.i64.wrap ((BitVec.ofInt 64 n &&& BitVec.ofInt 64 31).toNat : Int) = _
  rw [IntKind.wrap_i64]
  omega
theorem r6_and10 (n : Int) : ∃ k : Nat, bits .and .u32 n 1023 = (k : Int) ∧ k < 1024 := by
  have h : (BitVec.ofInt 32 n &&& BitVec.ofInt 32 1023).toNat ≤ 1023 := by
    rw [BitVec.toNat_and, show (BitVec.ofInt 32 1023).toNat = 1023 by decide]
    exact Nat.and_le_right
  refine ⟨(BitVec.ofInt 32 n &&& BitVec.ofInt 32 1023).toNat, ?_, by omega⟩
  show IntKind.u32.wrap ((BitVec.ofInt 32 n &&& BitVec.ofInt 32 1023).toNat : Int) = _
  rw [IntKind.wrap_u32]
  omega
theorem r6_and7 (n : Int) : ∃ k : Nat, bits .and .u8 n 7 = (k : Int) ∧ k ≤ 7 := by
  have h : (BitVec.ofInt 8 n &&& BitVec.ofInt 8 7).toNat ≤ 7 := by
    rw [BitVec.toNat_and, show (BitVec.ofInt 8 7).toNat = 7 by decide]
    exact Nat.and_le_right
  refine ⟨(BitVec.ofInt 8 n &&& BitVec.ofInt 8 7).toNat, ?_, h⟩
  show IntKind.u8.wrap ((BitVec.ofInt 8 n &&& BitVec.ofInt 8 7).toNat : Int) = _
  rw [IntKind.wrap_u8]
  omega
theorem r6_open {e m : Nat} (he : e ≤ 31) (hm : m < 1024) : opR (e : Int) m 18 = m * 2 ^ e := by
  unfold opR
  simp only [Int.toNat_natCast]
  have h1 : 2 ^ e ≤ 2 ^ 31 := Nat.pow_le_pow_right (by omega) he
  have h2 : m * 2 ^ e ≤ 1023 * 2 ^ 31 := Nat.mul_le_mul (by omega) h1
  rw [if_pos ⟨by omega, by omega, by simp; omega⟩]
  exact op_fits (by omega)
/-- The word, and its rate. -/
theorem r6_word {e m k : Nat} (he : e ≤ 31) (hm : m < 1024) (hk : k ≤ 7) (hke : k ≤ e) :
    bits .or .u32 (((e : Int) - (k : Int)) * 262144) ((m : Int) * 2 ^ k % 4294967296) = (((e - k) * 262144 + m * 2 ^ k : Nat) : Int) ∧ (e - k) * 262144 + m * 2 ^ k < 16777216 ∧
    ((e - k) * 262144 + m * 2 ^ k) % 262144 * 2 ^ (((e - k) * 262144 + m * 2 ^ k) / 262144) = m * 2 ^ e := by
  have h1 : 2 ^ k ≤ 2 ^ 7 := Nat.pow_le_pow_right (by omega) hk
  have h2 : m * 2 ^ k ≤ 1023 * 2 ^ 7 := Nat.mul_le_mul (by omega) h1
  have h3 : m * 2 ^ e = m * 2 ^ k * 2 ^ (e - k) := by rw [Nat.mul_assoc, ← Nat.pow_add]; congr 2; omega
  have h4 : (m : Int) * 2 ^ k = ((m * 2 ^ k : Nat) : Int) := by simp
  rw [h3, h4]
  generalize m * 2 ^ k = M at *
  have h5 : ((e : Int) - (k : Int)) * 262144 = (((e - k) * 262144 : Nat) : Int) := by omega
  have h6 : ((M : Nat) : Int) % 4294967296 = (M : Int) := by omega
  rw [h5, h6, or32 18 _ _ (by omega) (by omega) (by omega) (by omega)]
  refine ⟨rfl, by omega, ?_⟩
  have h7 : ((e - k) * 262144 + M) % 262144 = M := by omega
  have h8 : ((e - k) * 262144 + M) / 262144 = e - k := by omega
  rw [h7, h8]
theorem r6_word0 {e m : Nat} (he : e ≤ 31) (hm : m < 1024) :
    bits .or .u32 ((e : Int) * 262144) (m : Int) = ((e * 262144 + m : Nat) : Int) ∧ e * 262144 + m < 16777216 ∧ (e * 262144 + m) % 262144 * 2 ^ ((e * 262144 + m) / 262144) = m * 2 ^ e := by
  have h5 : (e : Int) * 262144 = ((e * 262144 : Nat) : Int) := by simp
  rw [h5, or32 18 _ _ (by omega) (by omega) (by omega) (by omega)]
  have h7 : (e * 262144 + m) % 262144 = m := by omega
  have h8 : (e * 262144 + m) / 262144 = e := by omega
  exact ⟨rfl, by omega, by rw [h7, h8]⟩
theorem r6_be4 (W : Nat) : ((be W 4).map bv).toArray = #[Value.int .u8 ((W : Int) / 16777216 % 256), .int .u8 ((W : Int) / 65536 % 256), .int .u8 ((W : Int) / 256 % 256), .int .u8 ((W : Int) % 256)] := by
  rw [be_head 3, be_head 2, be_head 1, be_head 0]
  have h0 : be W 0 = [] := rfl
  rw [h0]
  simp [bv, UInt8.toNat_ofNat']
theorem r6_bytes (W : Nat) : (([143, 206, 0, 4] ++ List.replicate 8 (0 : UInt8)) ++ [82, 69, 77, 66]) ++ be W 4 = hw 143 206 [0, 0, 1380273474, W] := by
  have h1 : be 1380273474 4 = [82, 69, 77, 66] := by decide
  have h2 : be 0 4 = [0, 0, 0, 0] := by decide
  have h3 : be 4 2 = [0, 4] := by decide
  unfold hw wB
  simp only [List.flatMap_cons, List.flatMap_nil, List.length_cons, List.length_nil, h1, h2]
  rw [show 0 + 1 + 1 + 1 + 1 = 4 from rfl, h3, List.append_nil]
  rfl
theorem one_of {L : List Rv} {a : Rep} (h : L.map Rv.r = [a]) : ∃ x, L = [x] ∧ x.r = a := by
  match L, h with
  | [x], h => simp only [List.map_cons, List.map_nil, List.cons.injEq, and_true] at h; exact ⟨x, rfl, h⟩
theorem own8_four (w : World) (base : Nat) (a b c d : UInt8) (cs : Array Value) (h : ([a, b, c, d].map bv).toArray = cs) (hb : base ≤ w.heap.size) : Own8 (w.alloc (.cells cs 5)) base (.slice (some ⟨w.heap.size, 0, none⟩) 4 4) [a, b, c, d] := by
  subst h
  exact ⟨rfl, .inr ⟨w.heap.size, 4, ([a, b, c, d].map bv).toArray, rfl, hb, Blk.new _ _ _, Nat.le_refl _, by decide, rfl, rfl⟩⟩
set_option maxHeartbeats 1000000 in
theorem rtcpRates_walk (man exp byy : Int) (w : World) (hm0 : (Lit.int .u32 man).wf = true) (he0 : I64 exp) (hb0 : (Lit.int .u8 byy).wf = true) :
    Calls Try.prog 6 #[.int .u32 man, .int .i64 exp, .int .u8 byy] w (Yes w) := by
  clear hm0 he0 hb0
  obtain ⟨e, he, e1⟩ := r6_and31 exp
  obtain ⟨m, hm, m1⟩ := r6_and10 man
  obtain ⟨k, hk, k1⟩ := r6_and7 byy
  have c1 := fun W => ref_open_s (e : Int) m 18 W (by omega) (by omega) (by omega)
  rw [r6_open e1 m1] at c1
  have hX64 : m * 2 ^ e < 18446744073709551616 := by
    have h1 : 2 ^ e ≤ 2 ^ 31 := Nat.pow_le_pow_right (by omega) e1
    have h2 : m * 2 ^ e ≤ 1023 * 2 ^ 31 := Nat.mul_le_mul (by omega) h1
    omega
  obtain ⟨hw0, hs0, hr0⟩ := r6_word0 e1 m1
  have HWK := fun hke => Lib.hid (r6_word e1 m1 k1 hke)
  generalize hX : m * 2 ^ e = X at c1 hX64 hr0 HWK
  have HX64 := Lib.hid hX64
  have HR0 := Lib.hid hr0
  have HS0 := Lib.hid hs0
  clear hX hX64 hr0 hs0
  generalize e * 262144 + m = W0 at hw0 HR0 HS0
  by_cases hke : k ≤ e
  · obtain ⟨hwk, hsk, hrk⟩ := (HWK hke).out
    clear HWK HS0 HR0
    generalize (e - k) * 262144 + m * 2 ^ k = W at hwk hsk hrk
    have HSK := Lib.hid hsk
    have HRK := Lib.hid hrk
    clear hsk hrk
    have hle : decide ((k : Int) ≤ (e : Int)) = true := by simp only [decide_eq_true_eq]; omega
    have oc : Own8 (w.alloc (.cells #[.int .u8 143, .int .u8 206, .int .u8 0, .int .u8 4] 5)) w.heap.size (.slice (some ⟨w.heap.size, 0, none⟩) 4 4) [143, 206, 0, 4] := own8_four w _ _ _ _ _ _ rfl (Nat.le_refl _)
    go_enter Try.func6, Try.ntmps6
    go_wp2_with fail
    refine (c1 _).mono ?_
    rintro e w1 ⟨rfl, rfl⟩
    clear c1
    go_upto_region 5 with (at_builtin; ((with_reducible refine wpList_append_zeros8 rfl (.tmp 25) (.const (.int .i64 8)) rfl w.heap.size _ _ (by with_unfolding_all rfl) oc 8 (by with_unfolding_all rfl) (by decide) (by decide) (by simp) ?_); intro v2 w2 ha2))
    have o2 := ha2.1
    have b2 : Below w.heap.size w w2 := ((Below.refl _ w).alloc (Nat.le_refl _) _).grown ha2.2.1 (by simp) (fun k hk => (World.ownsRow.lt oc k hk).1)
    clear ha2 oc
    go_upto_region 8 with (fail)
    have hB2 := b2.size
    have HL2 := Lib.hid (show ([143, 206, 0, 4] ++ List.replicate 8 (0 : UInt8)).length + [82, 69, 77, (66 : UInt8)].length ≤ 1000000 by simp)
    clear hw0 hwk he hm hk hle
    go_wp2_with (at_builtin; first | ((with_reducible refine wpList_appendS rfl (.tmp 46) (.const (.string ⟨#[82, 69, 77, 66]⟩)) rfl w.heap.size _ _ (by with_unfolding_all rfl) o2 [82, 69, 77, 66] rfl HL2.out hB2 ?_); rintro v4 w4 ⟨o4, g4⟩; have b4 := below_grown b2 hB2 g4 (fun k hk => (World.ownsRow.lt o2 k hk).1); clear o2 g4 b2; have hB4 := b4.size; have HL5 := Lib.hid (show (([143, 206, 0, 4] ++ List.replicate 8 (0 : UInt8)) ++ [82, 69, 77, (66 : UInt8)]).length + 4 ≤ 140737488355328 by simp)) | go_loud ((with_reducible refine wpList_append8 rfl (.tmp 47) (.tmp 59) rfl rfl w.heap.size _ _ (by with_unfolding_all rfl) (Own8.alloc o4 _) _ _ 4 4 (be W 4) (by with_unfolding_all rfl) (lit_r8 (be W 4) _ 4 (0, 0) (be_len _ _) (r6_be4 W) w4) HL5.out (le_alloc hB4 _) ?_); intro v8 w8 ha8))
    have o8 := ha8.1
    rw [r6_bytes] at o8
    have b8 := below_grown (b4.alloc hB4 _) (le_alloc hB4 _) ha8.2.1 (fun k hk => (World.ownsRow.lt o4 k hk).1)
    clear ha8 o4 b4 hB4 HL5 HL2 hB2
    obtain ⟨A8, c8, rfl, r8⟩ := o8.r8
    rw [hw_len] at r8 ⊢
    have hs8 := (Below.refl w8.heap.size w8).size
    have q := rtcp_read A8 _ c8 _ w8 r8 (by simp)
    unfold RdOut at q
    rw [remb_read W HSK.out (by rw [HRK.out]; exact HX64.out), HRK.out] at q
    clear r8 o8
    refine q.mono ?_
    rintro e w9 ⟨A2, n2, c2, L, rfl, hL, hl, hn2, b9⟩
    clear q
    obtain ⟨x0, rfl, hx0⟩ := one_of hL
    obtain ⟨r0, At0, ct0, Aa0, ca0, An0, cn0, Ab0, cb0⟩ := x0
    simp only at hx0
    subst hx0
    have hn2 : n2 = 1 := hl.1.symm
    subst hn2
    obtain ⟨b, off, rfl, hbb, k0, k1', k2, k3, k4, k5, k6, k7, k8, k9⟩ := hl.at (q := 0) (by simp)
    rw [Nat.zero_mul, Nat.add_zero] at k0 k4 k6
    have k4 : w9.cell? ⟨b, off + 4, none⟩ = some (.slice Aa0 0 ca0) := k4
    have k6 : w9.cell? ⟨b, off + 6, none⟩ = some (.int .u64 (X : Int)) := k6
    have k0 : w9.cell? ⟨b, off, none⟩ = some (.int .i64 5) := k0
    have b9 := Lib.hid (b8.trans (b9.mono b8.size))
    clear hl hL k1' k2 k3 k5 k7 k8 k9 b8 hs8
    go_wp2_with fail
    refine (known6 _).mono ?_
    rintro e w10 ⟨rfl, b10⟩
    have b10 := Lib.hid (b9.out.trans (b10.mono b9.out.size))
    clear k0 k4 k6 b9
    go_wp2_with fail
    go_ret
    exact ⟨rfl, b10.out⟩
  · have HSK := HS0
    have HRK := HR0
    clear HWK HS0 HR0
    have hle : decide ((k : Int) ≤ (e : Int)) = false := by simp only [decide_eq_false_iff_not]; omega
    have oc : Own8 (w.alloc (.cells #[.int .u8 143, .int .u8 206, .int .u8 0, .int .u8 4] 5)) w.heap.size (.slice (some ⟨w.heap.size, 0, none⟩) 4 4) [143, 206, 0, 4] := own8_four w _ _ _ _ _ _ rfl (Nat.le_refl _)
    go_enter Try.func6, Try.ntmps6
    go_wp2_with fail
    refine (c1 _).mono ?_
    rintro e w1 ⟨rfl, rfl⟩
    clear c1
    go_upto_region 5 with (at_builtin; ((with_reducible refine wpList_append_zeros8 rfl (.tmp 25) (.const (.int .i64 8)) rfl w.heap.size _ _ (by with_unfolding_all rfl) oc 8 (by with_unfolding_all rfl) (by decide) (by decide) (by simp) ?_); intro v2 w2 ha2))
    have o2 := ha2.1
    have b2 : Below w.heap.size w w2 := ((Below.refl _ w).alloc (Nat.le_refl _) _).grown ha2.2.1 (by simp) (fun k hk => (World.ownsRow.lt oc k hk).1)
    clear ha2 oc
    go_upto_region 8 with (fail)
    have hB2 := b2.size
    have HL2 := Lib.hid (show ([143, 206, 0, 4] ++ List.replicate 8 (0 : UInt8)).length + [82, 69, 77, (66 : UInt8)].length ≤ 1000000 by simp)
    clear hw0 he hm hk hle
    go_wp2_with (at_builtin; first | ((with_reducible refine wpList_appendS rfl (.tmp 46) (.const (.string ⟨#[82, 69, 77, 66]⟩)) rfl w.heap.size _ _ (by with_unfolding_all rfl) o2 [82, 69, 77, 66] rfl HL2.out hB2 ?_); rintro v4 w4 ⟨o4, g4⟩; have b4 := below_grown b2 hB2 g4 (fun k hk => (World.ownsRow.lt o2 k hk).1); clear o2 g4 b2; have hB4 := b4.size; have HL5 := Lib.hid (show (([143, 206, 0, 4] ++ List.replicate 8 (0 : UInt8)) ++ [82, 69, 77, (66 : UInt8)]).length + 4 ≤ 140737488355328 by simp)) | go_loud ((with_reducible refine wpList_append8 rfl (.tmp 47) (.tmp 59) rfl rfl w.heap.size _ _ (by with_unfolding_all rfl) (Own8.alloc o4 _) _ _ 4 4 (be W0 4) (by with_unfolding_all rfl) (lit_r8 (be W0 4) _ 4 (0, 0) (be_len _ _) (r6_be4 W0) w4) HL5.out (le_alloc hB4 _) ?_); intro v8 w8 ha8))
    have o8 := ha8.1
    rw [r6_bytes] at o8
    have b8 := below_grown (b4.alloc hB4 _) (le_alloc hB4 _) ha8.2.1 (fun k hk => (World.ownsRow.lt o4 k hk).1)
    clear ha8 o4 b4 hB4 HL5 HL2 hB2
    obtain ⟨A8, c8, rfl, r8⟩ := o8.r8
    rw [hw_len] at r8 ⊢
    have hs8 := (Below.refl w8.heap.size w8).size
    have q := rtcp_read A8 _ c8 _ w8 r8 (by simp)
    unfold RdOut at q
    rw [remb_read W0 HSK.out (by rw [HRK.out]; exact HX64.out), HRK.out] at q
    clear r8 o8
    refine q.mono ?_
    rintro e w9 ⟨A2, n2, c2, L, rfl, hL, hl, hn2, b9⟩
    clear q
    obtain ⟨x0, rfl, hx0⟩ := one_of hL
    obtain ⟨r0, At0, ct0, Aa0, ca0, An0, cn0, Ab0, cb0⟩ := x0
    simp only at hx0
    subst hx0
    have hn2 : n2 = 1 := hl.1.symm
    subst hn2
    obtain ⟨b, off, rfl, hbb, k0, k1', k2, k3, k4, k5, k6, k7, k8, k9⟩ := hl.at (q := 0) (by simp)
    rw [Nat.zero_mul, Nat.add_zero] at k0 k4 k6
    have k4 : w9.cell? ⟨b, off + 4, none⟩ = some (.slice Aa0 0 ca0) := k4
    have k6 : w9.cell? ⟨b, off + 6, none⟩ = some (.int .u64 (X : Int)) := k6
    have k0 : w9.cell? ⟨b, off, none⟩ = some (.int .i64 5) := k0
    have b9 := Lib.hid (b8.trans (b9.mono b8.size))
    clear hl hL k1' k2 k3 k5 k7 k8 k9 b8 hs8
    go_wp2_with fail
    refine (known6 _).mono ?_
    rintro e w10 ⟨rfl, b10⟩
    have b10 := Lib.hid (b9.out.trans (b10.mono b9.out.size))
    clear k0 k4 k6 b9
    go_wp2_with fail
    go_ret
    exact ⟨rfl, b10.out⟩
end Go.Proofs.Ytnchgmemajmkjaa.RP
