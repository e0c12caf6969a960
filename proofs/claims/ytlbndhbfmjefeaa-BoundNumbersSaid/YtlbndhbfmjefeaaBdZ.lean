/- BoundNumbers' walk. -/
import Derived.Test.YtlbndhbfmjefeaaBdV
import Derived.Test.YtlbndhbfmjefeaaBdT
import Derived.Test.YtlbndhbfmjefeaaAppK
namespace Go.Proofs.Ytlbndhbfmjefeaa
open Go.RowKit
set_option linter.unusedVariables false
set_option linter.unusedSimpArgs false
set_option maxRecDepth 20000

theorem run_appendTpK {w : World} (base : Nat) (v : Value) (l : List Tup) (hown : OwnTp w base v l) (B : Nat) (A : Option Addr) (m c : Nat) (r : List Tup) (hr : RT w B A m c r) (hb : l.length + m ≤ 4398046511104) (hbase : base ≤ w.heap.size) :
    ∃ v' w', (Builtin.append_ #[22, 22] 22 #[v, .slice A m c]).run Try.prog w = .ok v' w' ∧ OwnTp w' base v' (l ++ r) ∧ w.grownBy w' v.ownBlock ∧ OwnTp w' base v l := by
  obtain ⟨v', w', h1, ⟨h2, h3, _⟩, h4⟩ := run_appendK base 22 22 30 zT.val 3 24 Try.underlying22 tup_info rfl (by omega) v l.length (cellsT l) hown B A m c (cellsT r) hr.2.2 (cellsT_one r) (by simp only [maxLen]; omega) (by omega) hbase
  refine ⟨v', w', h1, ?_, h3, h4⟩
  unfold OwnTp
  rw [List.length_append, hr.1, cellsT_app]
  exact h2
theorem wpList_appendTpK_w {w : World} {ops : Array Oper} {rest : List Oper} {o : Oper} {a : Act} {Q : Exit → Act → World → Prop} (hgd : Region.wanted o (yielded ops a.tmps) = true) (s x : Operand)
    (ho : o.op = .call { callee := .builtin .append, args := #[s, x], argTypes := #[22, 22] }) (hty : o.type = 22)
    (base : Nat) (v : Value) (l : List Tup) (hs : a.eval s = v) (hown : OwnTp w base v l)
    (B : Nat) (A : Option Addr) (m c : Nat) (r : List Tup) (hx : a.eval x = .slice A m c) (hr : RT w B A m c r)
    (hb : l.length + m ≤ 4398046511104) (hbase : base ≤ w.heap.size)
    (h : ∀ v' w', OwnTp w' base v' (l ++ r) ∧ w.grownBy w' v.ownBlock ∧ OwnTp w' base v l → wpList Try.prog ops Q rest (a.put o.dst v') w') : wpList Try.prog ops Q (o :: rest) a w :=
  wpList_when hgd fun K hK => by
    obtain ⟨v', w', hrun, h2⟩ := run_appendTpK base v l hown B A m c r hr hb hbase
    unfold Oper.wp execOp
    simp only [ho, hty, resolve, invoke, builtin, Sem.run_bind, Sem.run_pure, Result.andThen_ok, List.map_toArray, List.map_cons, List.map_nil, hs, hx, hrun]
    exact hK _ _ (h v' w' h2)
/-- The row that is made, and what stays. -/
def NumR (w : World) (A : Option Addr) (k c : Nat) (M : List Tup) (W : World) : Prop := OwnTp W w.heap.size (.slice A k c) M ∧ M.length = k ∧ (∀ t ∈ M, t.In) ∧ Below w.heap.size w W
theorem NumR.on {w W W' : World} {A : Option Addr} {k c : Nat} {M : List Tup} (h : NumR w A k c M W) (hb : Below W.heap.size W W') : NumR w A k c M W' := ⟨h.1.on hb, h.2.1, h.2.2.1, h.2.2.2.trans (hb.mono h.2.2.2.size)⟩
theorem NumR.rt {w W : World} {A : Option Addr} {k c : Nat} {M : List Tup} (h : NumR w A k c M W) : RT W W.heap.size A k c M := by
  obtain ⟨A', c', e, r, _⟩ := h.1.rt h.2.2.1
  rw [h.2.1] at e r
  injection e with e1 _ e3
  subst e1 e3
  exact r
def nA : List Tup := [⟨1, 800, 10⟩, ⟨2, 1600, 20⟩, ⟨3, 2400, 30⟩]
def nB : List Tup := [⟨2, 800, 10⟩, ⟨1, 800, 10⟩, ⟨0, 800, 9⟩, ⟨3, 900, 10⟩]
def nC : List Tup := [⟨1, 800, 1⟩, ⟨2, 880, 11⟩, ⟨3, 960, 21⟩, ⟨4, 960, 31⟩]
def nD : List Tup := [⟨1, 18446744073709551615, 600⟩, ⟨2, 2199023255552, -5⟩, ⟨3, 0, 0⟩, ⟨4, 0, 511⟩]
theorem inT {t : Tup} (h1 : t.owner < 4294967296) (h2 : t.rate < 18446744073709551616) (h3 : I64 t.over) : t.In := ⟨h1, h2, h3⟩
theorem nA_in : ∀ t ∈ nA, t.In := by
  intro t ht
  simp only [nA, List.mem_cons, List.not_mem_nil, or_false] at ht
  rcases ht with rfl | rfl | rfl <;> exact inT (by decide) (by decide) (by unfold I64; decide)
theorem nB_in : ∀ t ∈ nB, t.In := by
  intro t ht
  simp only [nB, List.mem_cons, List.not_mem_nil, or_false] at ht
  rcases ht with rfl | rfl | rfl | rfl <;> exact inT (by decide) (by decide) (by unfold I64; decide)
theorem nC_in : ∀ t ∈ nC, t.In := by
  intro t ht
  simp only [nC, List.mem_cons, List.not_mem_nil, or_false] at ht
  rcases ht with rfl | rfl | rfl | rfl <;> exact inT (by decide) (by decide) (by unfold I64; decide)
theorem nD_in : ∀ t ∈ nD, t.In := by
  intro t ht
  simp only [nD, List.mem_cons, List.not_mem_nil, or_false] at ht
  rcases ht with rfl | rfl | rfl | rfl <;> exact inT (by decide) (by decide) (by unfold I64; decide)
/-- Four literal rows, one behind the other. -/
def Four (g : Nat) (W : World) : Prop := RT W W.heap.size (some ⟨g, 0, none⟩) 3 3 nA ∧ RT W W.heap.size (some ⟨g + 1, 0, none⟩) 4 4 nB ∧ RT W W.heap.size (some ⟨g + 1 + 1, 0, none⟩) 4 4 nC ∧ RT W W.heap.size (some ⟨g + 1 + 1 + 1, 0, none⟩) 4 4 nD
theorem Four.on {g : Nat} {W V : World} (h : Four g W) (hb : Below W.heap.size W V) : Four g V := ⟨h.1.on hb, h.2.1.on hb, h.2.2.1.on hb, h.2.2.2.on hb⟩
theorem four (w : World) : Four w.heap.size ((((w.alloc (.cells #[.int .u32 1, .int .u64 800, .int .i64 10, .int .u32 2, .int .u64 1600, .int .i64 20, .int .u32 3, .int .u64 2400, .int .i64 30] 30)).alloc (.cells #[.int .u32 2, .int .u64 800, .int .i64 10, .int .u32 1, .int .u64 800, .int .i64 10, .int .u32 0, .int .u64 800, .int .i64 9, .int .u32 3, .int .u64 900, .int .i64 10] 30)).alloc (.cells #[.int .u32 1, .int .u64 800, .int .i64 1, .int .u32 2, .int .u64 880, .int .i64 11, .int .u32 3, .int .u64 960, .int .i64 21, .int .u32 4, .int .u64 960, .int .i64 31] 30)).alloc (.cells #[.int .u32 1, .int .u64 18446744073709551615, .int .i64 600, .int .u32 2, .int .u64 2199023255552, .int .i64 (-5), .int .u32 3, .int .u64 0, .int .i64 0, .int .u32 4, .int .u64 0, .int .i64 511] 30)) ∧ Below w.heap.size w ((((w.alloc (.cells #[.int .u32 1, .int .u64 800, .int .i64 10, .int .u32 2, .int .u64 1600, .int .i64 20, .int .u32 3, .int .u64 2400, .int .i64 30] 30)).alloc (.cells #[.int .u32 2, .int .u64 800, .int .i64 10, .int .u32 1, .int .u64 800, .int .i64 10, .int .u32 0, .int .u64 800, .int .i64 9, .int .u32 3, .int .u64 900, .int .i64 10] 30)).alloc (.cells #[.int .u32 1, .int .u64 800, .int .i64 1, .int .u32 2, .int .u64 880, .int .i64 11, .int .u32 3, .int .u64 960, .int .i64 21, .int .u32 4, .int .u64 960, .int .i64 31] 30)).alloc (.cells #[.int .u32 1, .int .u64 18446744073709551615, .int .i64 600, .int .u32 2, .int .u64 2199023255552, .int .i64 (-5), .int .u32 3, .int .u64 0, .int .i64 0, .int .u32 4, .int .u64 0, .int .i64 511] 30)) := by
  have z1 : ∀ (v : World) (o : Obj), (v.alloc o).heap.size = v.heap.size + 1 := fun v o => by simp
  have a1 := lit_rt (w := w.alloc (.cells #[.int .u32 1, .int .u64 800, .int .i64 10, .int .u32 2, .int .u64 1600, .int .i64 20, .int .u32 3, .int .u64 2400, .int .i64 30] 30)) (g := w.heap.size) (l := nA) (Blk.new _ _ _) rfl nA_in
  have a2 := lit_rt (w := (w.alloc (.cells #[.int .u32 1, .int .u64 800, .int .i64 10, .int .u32 2, .int .u64 1600, .int .i64 20, .int .u32 3, .int .u64 2400, .int .i64 30] 30)).alloc (.cells #[.int .u32 2, .int .u64 800, .int .i64 10, .int .u32 1, .int .u64 800, .int .i64 10, .int .u32 0, .int .u64 800, .int .i64 9, .int .u32 3, .int .u64 900, .int .i64 10] 30)) (g := w.heap.size + 1) (l := nB) (by have := Blk.new (w.alloc (.cells #[.int .u32 1, .int .u64 800, .int .i64 10, .int .u32 2, .int .u64 1600, .int .i64 20, .int .u32 3, .int .u64 2400, .int .i64 30] 30)) 30 #[.int .u32 2, .int .u64 800, .int .i64 10, .int .u32 1, .int .u64 800, .int .i64 10, .int .u32 0, .int .u64 800, .int .i64 9, .int .u32 3, .int .u64 900, .int .i64 10]; rwa [z1] at this) rfl nB_in
  have a3 := lit_rt (w := ((w.alloc (.cells #[.int .u32 1, .int .u64 800, .int .i64 10, .int .u32 2, .int .u64 1600, .int .i64 20, .int .u32 3, .int .u64 2400, .int .i64 30] 30)).alloc (.cells #[.int .u32 2, .int .u64 800, .int .i64 10, .int .u32 1, .int .u64 800, .int .i64 10, .int .u32 0, .int .u64 800, .int .i64 9, .int .u32 3, .int .u64 900, .int .i64 10] 30)).alloc (.cells #[.int .u32 1, .int .u64 800, .int .i64 1, .int .u32 2, .int .u64 880, .int .i64 11, .int .u32 3, .int .u64 960, .int .i64 21, .int .u32 4, .int .u64 960, .int .i64 31] 30)) (g := w.heap.size + 1 + 1) (l := nC) (by have := Blk.new ((w.alloc (.cells #[.int .u32 1, .int .u64 800, .int .i64 10, .int .u32 2, .int .u64 1600, .int .i64 20, .int .u32 3, .int .u64 2400, .int .i64 30] 30)).alloc (.cells #[.int .u32 2, .int .u64 800, .int .i64 10, .int .u32 1, .int .u64 800, .int .i64 10, .int .u32 0, .int .u64 800, .int .i64 9, .int .u32 3, .int .u64 900, .int .i64 10] 30)) 30 #[.int .u32 1, .int .u64 800, .int .i64 1, .int .u32 2, .int .u64 880, .int .i64 11, .int .u32 3, .int .u64 960, .int .i64 21, .int .u32 4, .int .u64 960, .int .i64 31]; rwa [z1, z1] at this) rfl nC_in
  have a4 := lit_rt (w := ((((w.alloc (.cells #[.int .u32 1, .int .u64 800, .int .i64 10, .int .u32 2, .int .u64 1600, .int .i64 20, .int .u32 3, .int .u64 2400, .int .i64 30] 30)).alloc (.cells #[.int .u32 2, .int .u64 800, .int .i64 10, .int .u32 1, .int .u64 800, .int .i64 10, .int .u32 0, .int .u64 800, .int .i64 9, .int .u32 3, .int .u64 900, .int .i64 10] 30)).alloc (.cells #[.int .u32 1, .int .u64 800, .int .i64 1, .int .u32 2, .int .u64 880, .int .i64 11, .int .u32 3, .int .u64 960, .int .i64 21, .int .u32 4, .int .u64 960, .int .i64 31] 30)).alloc (.cells #[.int .u32 1, .int .u64 18446744073709551615, .int .i64 600, .int .u32 2, .int .u64 2199023255552, .int .i64 (-5), .int .u32 3, .int .u64 0, .int .i64 0, .int .u32 4, .int .u64 0, .int .i64 511] 30))) (g := w.heap.size + 1 + 1 + 1) (l := nD) (by have := Blk.new (((w.alloc (.cells #[.int .u32 1, .int .u64 800, .int .i64 10, .int .u32 2, .int .u64 1600, .int .i64 20, .int .u32 3, .int .u64 2400, .int .i64 30] 30)).alloc (.cells #[.int .u32 2, .int .u64 800, .int .i64 10, .int .u32 1, .int .u64 800, .int .i64 10, .int .u32 0, .int .u64 800, .int .i64 9, .int .u32 3, .int .u64 900, .int .i64 10] 30)).alloc (.cells #[.int .u32 1, .int .u64 800, .int .i64 1, .int .u32 2, .int .u64 880, .int .i64 11, .int .u32 3, .int .u64 960, .int .i64 21, .int .u32 4, .int .u64 960, .int .i64 31] 30)) 30 #[.int .u32 1, .int .u64 18446744073709551615, .int .i64 600, .int .u32 2, .int .u64 2199023255552, .int .i64 (-5), .int .u32 3, .int .u64 0, .int .i64 0, .int .u32 4, .int .u64 0, .int .i64 511]; rwa [z1, z1, z1] at this) rfl nD_in
  have b1 := belowA w (.cells #[.int .u32 1, .int .u64 800, .int .i64 10, .int .u32 2, .int .u64 1600, .int .i64 20, .int .u32 3, .int .u64 2400, .int .i64 30] 30)
  have b2 := belowA (w.alloc (.cells #[.int .u32 1, .int .u64 800, .int .i64 10, .int .u32 2, .int .u64 1600, .int .i64 20, .int .u32 3, .int .u64 2400, .int .i64 30] 30)) (.cells #[.int .u32 2, .int .u64 800, .int .i64 10, .int .u32 1, .int .u64 800, .int .i64 10, .int .u32 0, .int .u64 800, .int .i64 9, .int .u32 3, .int .u64 900, .int .i64 10] 30)
  have b3 := belowA ((w.alloc (.cells #[.int .u32 1, .int .u64 800, .int .i64 10, .int .u32 2, .int .u64 1600, .int .i64 20, .int .u32 3, .int .u64 2400, .int .i64 30] 30)).alloc (.cells #[.int .u32 2, .int .u64 800, .int .i64 10, .int .u32 1, .int .u64 800, .int .i64 10, .int .u32 0, .int .u64 800, .int .i64 9, .int .u32 3, .int .u64 900, .int .i64 10] 30)) (.cells #[.int .u32 1, .int .u64 800, .int .i64 1, .int .u32 2, .int .u64 880, .int .i64 11, .int .u32 3, .int .u64 960, .int .i64 21, .int .u32 4, .int .u64 960, .int .i64 31] 30)
  have b4 := belowA (((w.alloc (.cells #[.int .u32 1, .int .u64 800, .int .i64 10, .int .u32 2, .int .u64 1600, .int .i64 20, .int .u32 3, .int .u64 2400, .int .i64 30] 30)).alloc (.cells #[.int .u32 2, .int .u64 800, .int .i64 10, .int .u32 1, .int .u64 800, .int .i64 10, .int .u32 0, .int .u64 800, .int .i64 9, .int .u32 3, .int .u64 900, .int .i64 10] 30)).alloc (.cells #[.int .u32 1, .int .u64 800, .int .i64 1, .int .u32 2, .int .u64 880, .int .i64 11, .int .u32 3, .int .u64 960, .int .i64 21, .int .u32 4, .int .u64 960, .int .i64 31] 30)) (.cells #[.int .u32 1, .int .u64 18446744073709551615, .int .i64 600, .int .u32 2, .int .u64 2199023255552, .int .i64 (-5), .int .u32 3, .int .u64 0, .int .i64 0, .int .u32 4, .int .u64 0, .int .i64 511] 30)
  have b34 := b3.trans (b4.mono b3.size)
  have b234 := b2.trans (b34.mono b2.size)
  exact ⟨⟨(a1.on b234), a2.on b34, a3.on b4, a4⟩, b1.trans (b234.mono b1.size)⟩
theorem same13_at {A : Option Addr} {n c : Nat} {l : List Tup} {w : World} (h : RT w w.heap.size A n c l) (hn : n ≤ 100000) {p : Nat} {P : Int} (hp : p < 18446744073709551616) (hP : (p : Int) = P) : Calls Try.prog 10 #[.slice A n c, .int .u64 P] w (Yes w) := by
  subst hP
  exact same13_any h hn hp
theorem u64_some (z : Int) : ∃ x : Nat, IntKind.u64.wrap z = (x : Int) ∧ x < 18446744073709551616 := by
  rw [IntKind.wrap_u64]
  exact ⟨(z % 18446744073709551616).toNat, by omega, by omega⟩
set_option maxHeartbeats 4000000 in
theorem boundNumbers_walk (w : World) : Calls Try.prog 3 #[] w (Yes w) := by
  go_enter Try.func3, Try.ntmps3
  go_wp2_with fail
  go_loopw [1] (fun i wr => ∃ q : Nat, q ≤ 60 ∧ i = .int .i64 (q : Int) ∧ Below w.heap.size w wr) (fun i _ => 60 - (intOf i).toNat)
  case atStart => exact ⟨0, by omega, rfl, Below.refl _ _⟩
  case round =>
    obtain ⟨q, hq, rfl, b1⟩ := hrel
    have HB1 := Lib.hid b1
    clear b1
    by_cases hlt : q < 60
    · have g1 : decide ((q : Int) < 60) = true := by simp; omega
      have g3 : (q : Int) < 60 := by omega
      obtain ⟨r9, hr9⟩ : ∃ r, r = q % 9 := ⟨_, rfl⟩
      have ht : (q : Int).tmod 9 = (r9 : Int) := by rw [hr9, Int.tmod_eq_emod_of_nonneg (by omega)]; omega
      obtain ⟨k1, hk1⟩ : ∃ k1, k1 = 1 + r9 := ⟨_, rfl⟩
      have y1 : IntKind.i64.wrap (1 + (r9 : Int)) = (k1 : Int) := by rw [IntKind.wrap_i64]; omega
      have hk1l : k1 ≤ 9 := by omega
      clear hr9 hk1
      go_wp2_with fail
      ((with_reducible refine (law_tape13 q (by omega) _).mono ?_); rintro e w2 ⟨At, ct, rfl, rt, b2⟩)
      have HT := Lib.hid (⟨rt, HB1.out.trans (b2.mono HB1.out.size)⟩ : _ ∧ _)
      clear rt b2
      go_wp2_with fail
      ((with_reducible refine (row_any HT.out.1 (by omega) k1 (by omega)).mono ?_); rintro e w3 ⟨vL, M, rfl, owL, hML, hsL, b3⟩)
      obtain ⟨AL, cL, hv, _, _⟩ := owL.rt (fun x hx => (hsL x hx).in_)
      rw [hML] at hv
      subst hv
      have HM : Hid (NumR w AL k1 cL M w3) := Lib.hid ⟨ownTp_less owL HT.out.2.size, hML, fun x hx => (hsL x hx).in_, HT.out.2.trans (b3.mono HT.out.2.size)⟩
      clear owL hML hsL b3 ht y1 HT
      obtain ⟨wo, rfl⟩ : ∃ wo, wo = wr := ⟨_, rfl⟩
      go_wp2_with fail
      go_loopw [3] (fun i wr => ∃ x : Nat, x ≤ 46 ∧ i = .int .u64 (x : Int) ∧ Hid (NumR w AL k1 cL M wr)) (fun i _ => 47 - (intOf i).toNat)
      case atStart => exact ⟨0, by omega, rfl, HM⟩
      case round =>
        obtain ⟨x, hx, rfl, HX⟩ := hrel
        clear HM
        by_cases hx40 : x < 40
        · have s1 : decide ((x : Int) < 40) = true := by simp; omega
          have s3 : (x : Int) < 40 := by omega
          obtain ⟨xk, hxk⟩ : ∃ xk, xk = x * 1000 := ⟨_, rfl⟩
          have y2 : IntKind.u64.wrap ((x : Int) * 1000) = (xk : Int) := by rw [IntKind.wrap_u64]; omega
          have y3 : IntKind.u64.wrap ((x : Int) + 7) = ((x + 7 : Nat) : Int) := by rw [IntKind.wrap_u64]; omega
          have hxkl : xk ≤ 40000 := by omega
          clear hxk
          go_wp2_with fail
          ((with_reducible refine (same13_any HX.out.rt (by omega) (by omega)).mono ?_); rintro e w4 ⟨rfl, d4⟩)
          have HX4 := Lib.hid (HX.out.on d4)
          have o4 := HX4.out.1
          have r4 := HX4.out.rt
          have s4 := HX4.out.2.2.2.size
          have HL := Lib.hid (show M.length + k1 ≤ 4398046511104 by have := HX4.out.2.1; omega)
          have HIA : Hid (∀ y ∈ M ++ M, y.In) := Lib.hid (fun y hy => by
            rcases List.mem_append.1 hy with h | h <;> exact HX4.out.2.2.1 y h)
          clear d4
          go_wp2_with (at_builtin; go_loud ((with_reducible refine wpList_appendTpK_w (by with_unfolding_all rfl) (.tmp 28) (.tmp 29) rfl rfl w.heap.size (.slice AL k1 cL) M (by with_unfolding_all rfl) o4 _ AL k1 cL M (by with_unfolding_all rfl) r4 HL.out s4 ?_); intro v9 w9 ha9; obtain ⟨A9, c9, e9, r9', _⟩ := ha9.1.rt HIA.out; obtain ⟨m9, hm9⟩ : ∃ m, m = (M ++ M).length := ⟨_, rfl⟩; rw [← hm9] at e9 r9'; subst e9; have H9 := Lib.hid (⟨ha9, r9', hm9⟩ : _ ∧ _ ∧ _); clear ha9 r9' hm9))
          have b9 := below_grown HX4.out.2.2.2 s4 H9.out.1.2.1 (fun kk hkk => (World.ownsRow.lt o4 kk hkk).1)
          have HX9 : Hid (NumR w AL k1 cL M w9) := Lib.hid ⟨H9.out.1.2.2, HX4.out.2.1, HX4.out.2.2.1, b9⟩
          have hm9 : m9 ≤ 100000 := by have h5 := H9.out.2.2; have h6 := HX4.out.2.1; rw [List.length_append, h6] at h5; omega
          clear o4 r4 s4 b9
          ((with_reducible refine (same13_any H9.out.2.1 hm9 (by omega)).mono ?_); rintro e w5 ⟨rfl, d5⟩)
          have HX5 := Lib.hid (HX9.out.on d5)
          clear d5
          go_wp2_with fail
          go_roundw
          case rel => exact ⟨x + 7, by omega, by first | rfl | go_num, HX5⟩
          case measure => simp [intOf]; omega
        · have s1 : decide ((x : Int) < 40) = false := by simp; omega
          go_wp2_with fail
          go_roundw
          case rel => exact ⟨q + 1, by omega, by go_num, HX.out.2.2.2⟩
          case measure => simp [intOf]; omega
    · have g1 : decide ((q : Int) < 60) = false := by simp; omega
      go_upto_region 14 with (fail)
      obtain ⟨hF, hFb⟩ := four wr
      have HB5 := Lib.hid (HB1.out.trans (hFb.mono HB1.out.size))
      have HZ := Lib.hid hFb.size
      clear hFb
      generalize ((((wr.alloc (.cells #[.int .u32 1, .int .u64 800, .int .i64 10, .int .u32 2, .int .u64 1600, .int .i64 20, .int .u32 3, .int .u64 2400, .int .i64 30] 30)).alloc (.cells #[.int .u32 2, .int .u64 800, .int .i64 10, .int .u32 1, .int .u64 800, .int .i64 10, .int .u32 0, .int .u64 800, .int .i64 9, .int .u32 3, .int .u64 900, .int .i64 10] 30)).alloc (.cells #[.int .u32 1, .int .u64 800, .int .i64 1, .int .u32 2, .int .u64 880, .int .i64 11, .int .u32 3, .int .u64 960, .int .i64 21, .int .u32 4, .int .u64 960, .int .i64 31] 30)).alloc (.cells #[.int .u32 1, .int .u64 18446744073709551615, .int .i64 600, .int .u32 2, .int .u64 2199023255552, .int .i64 (-5), .int .u32 3, .int .u64 0, .int .i64 0, .int .u32 4, .int .u64 0, .int .i64 511] 30)) = w5 at hF HB5 HZ ⊢
      have HF := Lib.hid (fun V (hb : Below w5.heap.size w5 V) => (show RT V V.heap.size (some ⟨wr.heap.size, 0, none⟩) 3 3 nA ∧ RT V V.heap.size (some ⟨wr.heap.size + 1, 0, none⟩) 4 4 nB ∧ RT V V.heap.size (some ⟨wr.heap.size + 1 + 1, 0, none⟩) 4 4 nC ∧ RT V V.heap.size (some ⟨wr.heap.size + 1 + 1 + 1, 0, none⟩) 4 4 nD from hF.on hb))
      clear hF
      generalize wr.heap.size = g at HF ⊢
      generalize g + 1 = ga at HF ⊢
      generalize ga + 1 = gb at HF ⊢
      generalize gb + 1 = gc at HF ⊢
      clear HZ g1
      go_wp2_with fail
      go_loopw [8] (fun i wr => ∃ x : Nat, x ≤ 20 ∧ i = .int .u64 (x : Int) ∧ Below w5.heap.size w5 wr) (fun i _ => 20 - (intOf i).toNat)
      case atStart => exact ⟨0, by omega, rfl, Below.refl _ _⟩
      case round =>
        obtain ⟨x, hx, rfl, b6⟩ := hrel
        have H6 := Lib.hid b6
        clear b6
        by_cases hx20 : x < 20
        · have s1 : decide ((x : Int) < 20) = true := by simp; omega
          have s3 : (x : Int) < 20 := by omega
          have y3 : IntKind.u64.wrap ((x : Int) + 1) = ((x + 1 : Nat) : Int) := by rw [IntKind.wrap_u64]; omega
          obtain ⟨xs, hxs, hxsl⟩ := u64_some ((x : Int) * 1152921504606846976)
          go_wp2_with fail
          ((with_reducible refine (same13_any (HF.out _ H6.out).1 (by omega) (by omega)).mono ?_); rintro e w6 ⟨rfl, d6⟩)
          have H7 := Lib.hid (H6.out.trans (d6.mono H6.out.size))
          clear d6
          go_wp2_with fail
          ((with_reducible refine (same13_any (HF.out _ H7.out).2.1 (by omega) (by omega)).mono ?_); rintro e w7 ⟨rfl, d7⟩)
          have H8 := Lib.hid (H7.out.trans (d7.mono H7.out.size))
          clear d7
          go_wp2_with fail
          ((with_reducible refine (same13_any (HF.out _ H8.out).2.2.1 (by omega) (by omega)).mono ?_); rintro e w8 ⟨rfl, d8⟩)
          have H9 := Lib.hid (H8.out.trans (d8.mono H8.out.size))
          clear d8
          go_wp2_with fail
          ((with_reducible refine (same13_any (HF.out _ H9.out).2.2.2 (by omega) (by omega)).mono ?_); rintro e w9 ⟨rfl, d9⟩)
          have H10 := Lib.hid (H9.out.trans (d9.mono H9.out.size))
          have hcut := fun W => cut_tup (some ⟨gc, 0, none⟩) 4 4 2 (by omega) W
          replace hcut : ∀ W, (Instr.slice 22 (.slice (some ⟨gc, 0, none⟩) 4 4) none (some (.int .i64 2)) none).run Try.prog W = .ok (.slice (some ⟨gc, 0, none⟩) 2 4) W := hcut
          clear d9
          go_wp2_with fail
          ((with_reducible refine (same13_any ((HF.out _ H10.out).2.2.2.take (show 2 ≤ 4 by omega)) (by omega) hxsl).mono ?_); rintro e w10 ⟨rfl, d10⟩)
          have H11 := Lib.hid (H10.out.trans (d10.mono H10.out.size))
          obtain ⟨A', c', hc2, r2⟩ := cut_from (HF.out _ H11.out).2.2.2 (show 2 < 4 by omega)
          replace hc2 : ∀ W, (Instr.slice 22 (.slice (some ⟨gc, 0, none⟩) 4 4) (some (.int .i64 2)) none none).run Try.prog W = .ok (.slice A' 2 c') W := hc2
          have HR2 := Lib.hid (show RT w10 w10.heap.size A' 2 c' (nD.drop 2) from r2)
          clear d10 hcut r2
          go_wp2_with fail
          ((with_reducible refine (same13_any HR2.out (by omega) (by omega)).mono ?_); rintro e w11 ⟨rfl, d11⟩)
          have H12 := Lib.hid (H11.out.trans (d11.mono H11.out.size))
          clear d11 hc2
          go_wp2_with fail
          go_roundw
          case rel => exact ⟨x + 1, by omega, by first | rfl | go_num, H12.out⟩
          case measure => simp [intOf]; omega
        · have s1 : decide ((x : Int) < 20) = false := by simp; omega
          go_wp2_with fail
          ((with_reducible refine (same13_at (p := 18446744073709551615) (P := 18446744073709551615) (RT.nil _ _ none 0) (by omega) (by omega) rfl).mono ?_); rintro e w6 ⟨rfl, d6⟩)
          have H7 := Lib.hid (H6.out.trans (d6.mono H6.out.size))
          clear d6
          go_wp2_with fail
          ((with_reducible refine (known13_any _).mono ?_); rintro e w7 ⟨rfl, d7⟩)
          have H8 := Lib.hid (H7.out.trans (d7.mono H7.out.size))
          clear d7
          go_wp2_with fail
          go_ret
          exact ⟨rfl, HB5.out.trans (H8.out.mono HB5.out.size)⟩
end Go.Proofs.Ytlbndhbfmjefeaa
