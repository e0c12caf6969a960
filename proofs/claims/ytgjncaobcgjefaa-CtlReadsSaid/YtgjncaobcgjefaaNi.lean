/- Contracts: slices.Index, slices.Contains of ints; ctl.fieldsOf, number, zero, ruleOf. Contracts: ctl.number, zero, ruleOf, alone. Contract: ctl.alone. -/
import Derived.Test.YtgjncaobcgjefaaClP
import Derived.Test.YtgjncaobcgjefaaCtM
import Derived.Test.YtgjncaobcgjefaaCtW
namespace Go.Proofs.Ytgjncaobcgjefaa
open Go.RowKit
set_option linter.unusedVariables false
set_option linter.unusedSimpArgs false
set_option maxRecDepth 20000

/-- A slice of ints. -/
def RJ (w : World) (B : Nat) (A : Option Addr) (n c : Nat) (l : List Int) : Prop := l.length = n ∧ RX w B A n c 1 (l.map (Value.int .i64 ·))
theorem RJ.on {w w' : World} {A : Option Addr} {n c : Nat} {l : List Int} (h : RJ w w.heap.size A n c l) (hb : Below w.heap.size w w') : RJ w' w'.heap.size A n c l := ⟨h.1, h.2.on hb⟩
theorem RJ.below {w w' : World} {B : Nat} {A : Option Addr} {n c : Nat} {l : List Int} (h : RJ w B A n c l) (hb : Below B w w') : RJ w' B A n c l := ⟨h.1, h.2.below hb⟩
theorem RJ.at {w : World} {B : Nat} {A : Option Addr} {n c : Nat} {l : List Int} (h : RJ w B A n c l) {q : Nat} (hq : q < l.length) : ∃ b off, A = some ⟨b, off, none⟩ ∧ b < B ∧ w.cell? ⟨b, off + q, none⟩ = some (.int .i64 l[q]) := by
  obtain ⟨b, off, h1, h2, h3⟩ := h.2.2.2 (by have := h.1; omega)
  refine ⟨b, off, h1, h2, h3 q _ ?_⟩
  simp [hq]
theorem RJ.lit (w : World) (cs : Array Value) (n : Nat) (l : List Int) (h : l.length = n) (hc : (l.map (Value.int .i64 ·)).toArray = cs) : RJ (w.alloc (.cells cs 3)) (w.alloc (.cells cs 3)).heap.size (some ⟨w.heap.size, 0, none⟩) n n l := by
  subst hc
  refine ⟨h, by simp [h], Nat.le_refl _, fun _ => ⟨w.heap.size, 0, rfl, by simp, fun j v hj => ?_⟩⟩
  have hB := Blk.new w 3 (l.map (Value.int .i64 ·)).toArray
  rw [Nat.zero_add, hB.cell j, ← hj]
  simp
def IdxOut (l : List Int) (x : Int) (w : World) (e : Ending) (w' : World) : Prop := ∃ i : Int, e = .returned (.int .i64 i) ∧ decide (0 ≤ i) = l.contains x ∧ w = w'
theorem index_any (A : Option Addr) (n c : Nat) (l : List Int) (x : Int) (w : World) (h : RJ w w.heap.size A n c l) (hn : n ≤ 1000) : Calls Try.prog 59 #[.slice A n c, .int .i64 x] w (IdxOut l x w) := by
  have HL := Lib.hid h.1
  go_enter Try.func59, Try.ntmps59
  go_wp2_with fail
  go_loop [5, 8] (fun _ v => ∃ q : Nat, v = .int .i64 (q : Int) ∧ q ≤ n ∧ ∀ (j : Nat) (hj : j < l.length), j < q → x ≠ l[j]) (fun _ v => n - (intOf v).toNat)
  case atStart => exact ⟨0, rfl, Nat.zero_le _, fun j hj h => by omega⟩
  case round =>
    obtain ⟨q, rfl, hq, hne⟩ := hrel
    by_cases hlt : q < n
    · have g3 : decide ((q : Int) < (n : Int)) = true := by simp; omega
      have hql : q < l.length := by have := HL.out; omega
      obtain ⟨b, off, rfl, hb, k0⟩ := h.at hql
      obtain ⟨y, hy⟩ : ∃ y, y = l[q] := ⟨_, rfl⟩
      rw [← hy] at k0
      by_cases e : x = y
      · have g4 : (x == y) = true := by simpa using e
        have hc : l.contains x = true := by rw [e, hy]; simp
        clear e hy hne
        go_wp2_with fail
        go_ret
        exact ⟨_, rfl, by rw [hc]; simp, rfl⟩
      · have g4 : (x == y) = false := by simpa using e
        have HN : Hid (∀ (j : Nat) (hj : j < l.length), j < q + 1 → x ≠ l[j]) := Lib.hid fun j hj hjq => by
          by_cases hjj : j = q
          · subst hjj
            rwa [← hy]
          · exact hne j hj (by omega)
        clear e hy hne
        go_wp2_with fail
        go_round
        case rel => exact ⟨q + 1, by go_num, by omega, HN.out⟩
        case measure => simp [intOf]; omega
    · have g3 : decide ((q : Int) < (n : Int)) = false := by simp; omega
      have hc : l.contains x = false := by
        rw [Bool.eq_false_iff]
        intro e
        obtain ⟨j, hj, hx⟩ := List.getElem_of_mem (List.contains_iff_mem.1 e)
        exact hne j hj (by have := HL.out; omega) hx.symm
      clear hne
      go_wp2_with fail
      go_ret
      exact ⟨_, rfl, by rw [hc]; rfl, rfl⟩
theorem contains_any (A : Option Addr) (n c : Nat) (l : List Int) (x : Int) (w : World) (h : RJ w w.heap.size A n c l) (hn : n ≤ 1000) : Calls Try.prog 50 #[.slice A n c, .int .i64 x] w (Still (.bool (l.contains x)) w) := by
  go_enter Try.func50, Try.ntmps50
  go_wp2_with fail
  refine (index_any A n c l x w h hn).mono ?_
  rintro e w' ⟨i, rfl, hi, rfl⟩
  have HI := Lib.hid hi
  clear hi
  go_wp2_with fail
  go_ret
  exact ⟨by rw [← HI.out]; rfl, rfl⟩
/-- What fieldsOf answers. -/
def FieldsOut (k : Int) (w : World) (e : Ending) (w' : World) : Prop := ∃ A m, e = .returned (.tuple #[.slice A m m, .bool (isK k)]) ∧ RJ w' w'.heap.size A m m (names k) ∧ m ≤ 3 ∧ Below w.heap.size w w'
theorem RJ.nil (w : World) (B : Nat) (A : Option Addr) (c : Nat) : RJ w B A 0 c [] := ⟨rfl, RX.nil _ _ _ _ _⟩
set_option maxHeartbeats 4000000 in
theorem fieldsOf_any (k : Int) (w : World) : Calls Try.prog 18 #[.int .i64 k] w (FieldsOut k w) := by
  have hb := fun o => below_alloc w o
  by_cases hk : 1 ≤ k ∧ k ≤ 10
  · have hc : k = 1 ∨ k = 2 ∨ k = 3 ∨ k = 4 ∨ k = 5 ∨ k = 6 ∨ k = 7 ∨ k = 8 ∨ k = 9 ∨ k = 10 := by omega
    clear hk
    rcases hc with rfl | rfl | rfl | rfl | rfl | rfl | rfl | rfl | rfl | rfl
    case' inr.inl =>
      go_enter Try.func18, Try.ntmps18
      go_wp2
      go_ret2
      exact ⟨none, 0, rfl, RJ.nil _ _ _ _, by omega, Below.refl _ _⟩
    all_goals
      go_enter Try.func18, Try.ntmps18
      go_wp2
      go_ret2
      exact ⟨_, _, rfl, RJ.lit w _ _ _ rfl rfl, by omega, hb _⟩
  · have e1 : (k == 1) = false := by simp; omega
    have e2 : (k == 2) = false := by simp; omega
    have e3 : (k == 3) = false := by simp; omega
    have e4 : (k == 4) = false := by simp; omega
    have e5 : (k == 5) = false := by simp; omega
    have e6 : (k == 6) = false := by simp; omega
    have e7 : (k == 7) = false := by simp; omega
    have e8 : (k == 8) = false := by simp; omega
    have e9 : (k == 9) = false := by simp; omega
    have e10 : (k == 10) = false := by simp; omega
    have ek : isK k = false := by simp [isK]; omega
    have en : names k = [] := by
      unfold names
      repeat rw [if_neg (by omega)]
    have hR : FieldsOut k w (.returned (.tuple #[.slice none 0 0, .bool false])) w := ⟨none, 0, by rw [ek], by rw [en]; exact RJ.nil _ _ _ _, by omega, Below.refl _ _⟩
    clear hk ek en
    go_enter Try.func18, Try.ntmps18
    go_wp2
    go_ret2
    exact hR
end Go.Proofs.Ytgjncaobcgjefaa
namespace Go.Proofs.Ytgjncaobcgjefaa
open Go.RowKit
set_option linter.unusedVariables false
set_option linter.unusedSimpArgs false
set_option maxRecDepth 20000

set_option maxHeartbeats 4000000 in
theorem number_any (x : Ctl) (A : Option Addr) (cp : Nat) (n : Int) (hn : n = 1 ∨ n = 3 ∨ n = 4 ∨ n = 5 ∨ n = 6 ∨ n = 7) (w : World) : Calls Try.prog 34 #[x.val A cp, .int .i64 n] w (Ans (.int .i64 (x.num n)) w) := by
  have hb := fun o => below_alloc w o
  obtain ⟨k, p, l, e, h, s, y, d⟩ := x
  simp only [Ctl.val]
  generalize l.length = m
  rcases hn with rfl | rfl | rfl | rfl | rfl | rfl
  all_goals
    simp only [Ctl.num]
    go_enter Try.func34, Try.ntmps34
    go_wp2
    go_ret
    exact ⟨rfl, hb _⟩
set_option maxHeartbeats 4000000 in
theorem zero_any (x : Ctl) (A : Option Addr) (cp : Nat) (n : Int) (h1 : 1 ≤ n) (h7 : n ≤ 7) (w : World) : Calls Try.prog 51 #[x.val A cp, .int .i64 n] w (Ans (.bool (x.zero n)) w) := by
  have hb := fun o => below_alloc w o
  by_cases h2 : n = 2
  · subst h2
    obtain ⟨k, p, l, e, h, s, y, d⟩ := x
    simp only [Ctl.val, Ctl.zero, if_true]
    generalize l.length = m
    go_enter Try.func51, Try.ntmps51
    go_wp2
    go_ret
    refine ⟨congrArg Ending.returned (show Value.bool ((m : Int) == 0) = Value.bool (decide (m = 0)) from ?_), hb _⟩
    congr 1
    rw [Bool.eq_iff_iff]
    simp
  · have hn : n = 1 ∨ n = 3 ∨ n = 4 ∨ n = 5 ∨ n = 6 ∨ n = 7 := by omega
    have e2 : (n == 2) = false := by simpa using h2
    have e0 : x.zero n = decide (x.num n = 0) := by simp [Ctl.zero, h2]
    have hN := number_any x A cp n hn
    rw [e0]
    obtain ⟨v, hv⟩ : ∃ v, v = x.num n := ⟨_, rfl⟩
    rw [← hv] at hN ⊢
    clear hv e0
    have HN := Lib.hid hN
    clear hN h2 hn
    obtain ⟨k, p, l, e, h, s, y, d⟩ := x
    simp only [Ctl.val] at HN ⊢
    generalize l.length = m at HN ⊢
    go_enter Try.func51, Try.ntmps51
    go_wp2_with fail
    refine (HN.out _).mono ?_
    rintro e' w1 ⟨rfl, b1⟩
    have b2 := (hb (.cells #[.int .i64 k, .int .i64 p, .slice A m cp, .int .i64 e, .int .i64 h, .int .i64 s, .int .i64 y, .int .i64 d] 25)).trans (b1.mono (by simp))
    clear b1
    go_wp2_with fail
    go_ret
    exact ⟨rfl, b2⟩
def ruleV (n : Int) : Value := .agg #[.int .i64 (rSize n : Int), .int .i64 (rLeast n), .int .i64 (rMost n)]
set_option maxHeartbeats 4000000 in
theorem ruleOf_any (n : Int) (hn : n = 1 ∨ n = 3 ∨ n = 4 ∨ n = 5 ∨ n = 6 ∨ n = 7) (w : World) : Calls Try.prog 35 #[.int .i64 n] w (Ans (ruleV n) w) := by
  rcases hn with rfl | rfl | rfl | rfl | rfl | rfl
  all_goals
    go_enter Try.func35, Try.ntmps35
    go_wp2
    refine bodyPost_ret (by simp [results, Try.results35, go_sem]; try rfl) rfl ?_
    exact ⟨rfl, below_alloc w _⟩
end Go.Proofs.Ytgjncaobcgjefaa
namespace Go.Proofs.Ytgjncaobcgjefaa
open Go.RowKit
set_option linter.unusedVariables false
set_option linter.unusedSimpArgs false
set_option maxRecDepth 20000

set_option maxHeartbeats 4000000 in
theorem alone_any (x : Ctl) (A : Option Addr) (cp : Nat) (B : Option Addr) (n c : Nat) (l : List Int) (w : World) (h : RJ w w.heap.size B n c l) (hn : n ≤ 1000) : Calls Try.prog 30 #[x.val A cp, .slice B n c] w (Ans (.bool (x.alone l)) w) := by
  have hZ : Hid (∀ (q : Int), 1 ≤ q → q ≤ 7 → ∀ W : World, Calls Try.prog 51 #[x.val A cp, .int .i64 q] W (Ans (.bool (x.zero q)) W)) := Lib.hid fun q h1 h7 W => zero_any x A cp q h1 h7 W
  have HI := Lib.hid (alone_iff x l)
  generalize hF : x.alone l = F at HI ⊢
  have HF := Lib.hid hF
  clear hF
  have hM := Blk.new w 25 (x.cells A cp)
  have hb0 := below_alloc w (.cells (x.cells A cp) 25)
  obtain ⟨zF, hzF⟩ : ∃ z : Int → Bool, z = x.zero := ⟨_, rfl⟩
  rw [← hzF] at hZ HI
  clear hzF
  obtain ⟨k, p, ls, e, ht, s, y, d⟩ := x
  simp only [Ctl.val, Ctl.cells] at hZ hM hb0 ⊢
  generalize ls.length = m at hZ hM hb0 ⊢
  go_enter Try.func30, Try.ntmps30
  go_wp2
  generalize w.alloc (.cells #[.int .i64 k, .int .i64 p, .slice A m cp, .int .i64 e, .int .i64 ht, .int .i64 s, .int .i64 y, .int .i64 d] 25) = W0 at hM hb0 ⊢
  obtain ⟨g, hg⟩ : ∃ g, g = w.heap.size := ⟨_, rfl⟩
  rw [← hg] at hM ⊢
  have HG := Lib.hid hg
  clear hg
  have hgl := hM.lt
  go_loopw [5] (fun v wr => ∃ q : Nat, v = .int .i64 (q : Int) ∧ 1 ≤ q ∧ q ≤ 8 ∧ Hid (∀ j : Nat, 1 ≤ j → j < q → (l.contains (j : Int) || zF (j : Int)) = true) ∧ Below W0.heap.size W0 wr) (fun v _ => 8 - (intOf v).toNat)
  case atStart => exact ⟨1, rfl, by omega, by omega, Lib.hid (fun j h1 h2 => by omega), Below.refl _ _⟩
  case round =>
    obtain ⟨q, rfl, h1, h8, hq, hb⟩ := hrel
    by_cases hlt : q < 8
    · have g3 : decide ((q : Int) ≤ 7) = true := by simp; omega
      have hb2 := hb0.trans (hb.mono hb0.size)
      have hR := h.on hb2
      have kc := blk8 (hM.below hb hgl)
      have hC := contains_any B n c l (q : Int) wr hR hn
      obtain ⟨F1, hF1⟩ : ∃ F1, F1 = l.contains (q : Int) := ⟨_, rfl⟩
      rw [← hF1] at hC
      have HF1 := Lib.hid hF1
      clear hF1 hR h
      by_cases e1 : F1 = true
      · subst e1
        go_wp2_with fail
        refine hC.mono ?_
        rintro e' w' ⟨rfl, rfl⟩
        go_wp2_with fail
        go_roundw
        case rel => exact ⟨q + 1, by go_num, by omega, by omega, Lib.hid (fun j hj1 hj2 => by
          by_cases hj : j = q
          · subst hj
            rw [← HF1.out]
            rfl
          · exact hq.out j hj1 (by omega)), hb⟩
        case measure => simp [intOf]; omega
      · have e1 : F1 = false := by simpa using e1
        subst e1
        go_wp2_with fail
        refine hC.mono ?_
        rintro e' w' ⟨rfl, rfl⟩
        go_wp2_with fail
        refine (hZ.out (q : Int) (by omega) (by omega) _).mono ?_
        rintro e' w1 ⟨rfl, b1⟩
        have b2 := hb.trans (b1.mono hb.size)
        clear kc b1
        obtain ⟨F2, hF2⟩ : ∃ F2, F2 = zF (q : Int) := ⟨_, rfl⟩
        rw [← hF2]
        have HF2 := Lib.hid hF2
        clear hF2
        by_cases e2 : F2 = true
        · subst e2
          go_wp2_with fail
          go_roundw
          case rel => exact ⟨q + 1, by go_num, by omega, by omega, Lib.hid (fun j hj1 hj2 => by
            by_cases hj : j = q
            · subst hj
              rw [← HF2.out]
              simp
            · exact hq.out j hj1 (by omega)), b2⟩
          case measure => simp [intOf]; omega
        · have e2 : F2 = false := by simpa using e2
          subst e2
          have hff : F = false := by
            rw [Bool.eq_false_iff]
            intro ht
            have := HI.out.1 ht q h1 hlt
            rw [← HF1.out, ← HF2.out] at this
            cases this
          subst hff
          have hb3 := hb0.trans (b2.mono hb0.size)
          clear hb2
          go_wp2_with fail
          go_ret
          exact ⟨rfl, hb3⟩
    · have g3 : decide ((q : Int) ≤ 7) = false := by simp; omega
      have hff : F = true := HI.out.2 fun j h1 h2 => hq.out j h1 (by omega)
      subst hff
      have hb3 := hb0.trans (hb.mono hb0.size)
      go_wp2_with fail
      go_ret
      exact ⟨rfl, hb3⟩
end Go.Proofs.Ytgjncaobcgjefaa
