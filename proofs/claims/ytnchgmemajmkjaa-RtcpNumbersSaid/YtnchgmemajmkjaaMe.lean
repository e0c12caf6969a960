/- What is read is right and would be written so, or it is none of its kind: the two ways of saying it are one. Plain mathematics. One report is read as the document's own answer reads it. Plain mathematics. Words that follow a head are read as one report. Plain mathematics. A right report, as it is written, is read as itself. Plain mathematics. -/
import Derived.Test.YtnchgmemajmkjaaMc
import Derived.Test.YtnchgmemajmkjaaMd
import Derived.Test.YtnchgmemajmkjaaPcO
namespace Go.Proofs.Ytnchgmemajmkjaa
set_option linter.unusedVariables false
set_option linter.unusedSimpArgs false
set_option maxRecDepth 20000

theorem be4_cons (x : Nat) : ∃ a b c d, be x 4 = [a, b, c, d] := by
  have h := be_len 4 x
  match hb : be x 4, h with
  | [a, b, c, d], _ => exact ⟨a, b, c, d, rfl⟩
theorem wsOf_wB : ∀ {l : List Nat}, Small l → wsOf (wB l) = l
  | [], _ => rfl
  | x :: r, h => by
    have ih := wsOf_wB (l := r) (fun y hy => h y (by simp [hy]))
    have hx := h x (by simp)
    obtain ⟨a, b, c, d, e⟩ := be4_cons x
    have hn := num_be 4 x
    rw [e] at hn
    rw [wB_cons, e]
    show num [a, b, c, d] :: wsOf (wB r) = x :: r
    rw [ih, hn]
    congr 1
    omega
theorem wB_inj {l m : List Nat} (hl : Small l) (hm : Small m) (h : wB l = wB m) : l = m := by
  rw [← wsOf_wB hl, ← wsOf_wB hm, h]
theorem wB_append (l m : List Nat) : wB (l ++ m) = wB l ++ wB m := by simp [wB]
/-- A word of a row is written over. -/
theorem setW_wB (H : List UInt8) (hH : H.length = 4) {ws : List Nat} {i wd : Nat} (hi : i < ws.length) : setW (H ++ wB ws) (4 + 4 * i) wd = H ++ wB (ws.set i wd) := by
  have h1 : ws = ws.take i ++ (ws[i] :: ws.drop (i + 1)) := by
    rw [← List.drop_eq_getElem_cons hi, List.take_append_drop]
  have hl : (wB (ws.take i)).length = 4 * i := by rw [wB_len, List.length_take]; omega
  have h2 : ws.set i wd = ws.take i ++ (wd :: ws.drop (i + 1)) := by
    rw [List.set_eq_take_append_cons_drop, if_pos hi]
  unfold setW
  rw [h2]
  conv => lhs; rw [h1]
  rw [wB_append, wB_append, wB_cons, wB_cons]
  have ht : (H ++ (wB (ws.take i) ++ (be ws[i] 4 ++ wB (ws.drop (i + 1))))).take (4 + 4 * i) = H ++ wB (ws.take i) := by
    rw [← List.append_assoc, List.take_append_of_le_length (by rw [List.length_append, hH, hl]; omega)]
    exact List.take_of_length_le (by rw [List.length_append, hH, hl]; omega)
  have hd : (H ++ (wB (ws.take i) ++ (be ws[i] 4 ++ wB (ws.drop (i + 1))))).drop (4 + 4 * i + 4) = wB (ws.drop (i + 1)) := by
    have e : H ++ (wB (ws.take i) ++ (be ws[i] 4 ++ wB (ws.drop (i + 1)))) = (H ++ (wB (ws.take i) ++ be ws[i] 4)) ++ wB (ws.drop (i + 1)) := by simp
    rw [e]
    have hl2 : (H ++ (wB (ws.take i) ++ be ws[i] 4)).length = 4 + 4 * i + 4 := by
      rw [List.length_append, List.length_append, be_len, hH, hl]
      omega
    rw [← hl2, List.drop_left]
  rw [ht, hd]
  simp
def shortNW (ws : List Nat) (l : List Tup) : Nat → List Nat
  | 0 => ws
  | q + 1 => (shortNW ws l q).set (3 + 2 * q) ((l[q]?.map Tup.word).getD 0)
theorem shortNW_len (ws : List Nat) (l : List Tup) : ∀ q, (shortNW ws l q).length = ws.length
  | 0 => rfl
  | q + 1 => by
    unfold shortNW
    rw [List.length_set, shortNW_len ws l q]
theorem shortN_wB (H : List UInt8) (hH : H.length = 4) (ws : List Nat) (l : List Tup) : ∀ q, 2 + 2 * q ≤ ws.length → shortN (H ++ wB ws) l q = H ++ wB (shortNW ws l q)
  | 0, _ => rfl
  | q + 1, h => by
    unfold shortN shortNW
    rw [shortN_wB H hH ws l q (by omega), show 16 + 8 * q = 4 + 4 * (3 + 2 * q) by omega, setW_wB H hH (by rw [shortNW_len]; omega)]
theorem shortNW_eq {ws : List Nat} {f z : Nat} {rest : List Nat} (hws : ws = f :: z :: rest) : ∀ q, 2 * q ≤ rest.length → shortNW ws (tupsR ws) q = f :: z :: (((tupsR ws).take q).flatMap (fun t => [t.owner, t.word]) ++ rest.drop (2 * q))
  | 0, _ => by simp [shortNW, hws]
  | q + 1, h => by
    have ih := shortNW_eq hws q (by omega)
    have hq : q < (tupsR ws).length := by rw [tupsR_len, hws]; simp; omega
    have hq2 : q < (pairs (ws.drop 2)).length := by simpa [tupsR] using hq
    have h2 : ws.drop 2 = rest := by rw [hws]; rfl
    have hown : (tupsR ws)[q].owner = rest.getD (2 * q) 0 := by
      have h3 : (tupsR ws)[q] = tupR (pairs (ws.drop 2))[q] := by simp only [tupsR, List.getElem_map]
      rw [h3, pairs_at _ _ hq2, h2]
      rfl
    unfold shortNW
    rw [ih, List.getElem?_eq_getElem hq, Option.map_some, Option.getD_some]
    rw [show 3 + 2 * q = (2 * q + 1) + 1 + 1 by omega, List.set_cons_succ, List.set_cons_succ]
    have hl : (((tupsR ws).take q).flatMap (fun t => [t.owner, t.word])).length = 2 * q := by
      rw [flat_length (k := 2) (fun _ => rfl), List.length_take]
      omega
    rw [List.set_append, if_neg (by omega), hl, show 2 * q + 1 - 2 * q = 1 by omega]
    have hd : rest.drop (2 * q) = rest.getD (2 * q) 0 :: rest.getD (2 * q + 1) 0 :: rest.drop (2 * (q + 1)) := by
      rw [List.drop_eq_getElem_cons (by omega), List.drop_eq_getElem_cons (by omega), List.getD_eq_getElem?_getD, List.getD_eq_getElem?_getD, List.getElem?_eq_getElem (by omega), List.getElem?_eq_getElem (by omega)]
      rfl
    rw [hd, ← tupw_take hq, hown]
    simp
theorem pairs_flat : ∀ (l : List Nat), l.length % 2 = 0 → (pairs l).flatMap (fun p => [p.1, p.2]) = l
  | [], _ => rfl
  | [a], h => by simp at h
  | a :: b :: r, h => by
    have ih := pairs_flat r (by simp at h; omega)
    show [a, b] ++ (pairs r).flatMap (fun p => [p.1, p.2]) = _
    rw [ih]
    rfl
theorem flat2_inj {α : Type} {f g : α → List Nat} (hf : ∀ x, (f x).length = 2) (hg : ∀ x, (g x).length = 2) : ∀ (l : List α), l.flatMap f = l.flatMap g ↔ ∀ x ∈ l, f x = g x
  | [] => by simp
  | x :: r => by
    rw [List.flatMap_cons, List.flatMap_cons]
    constructor
    · intro h
      obtain ⟨h1, h2⟩ := List.append_inj h (by rw [hf, hg])
      intro y hy
      rcases List.mem_cons.1 hy with rfl | hy
      · exact h1
      · exact (flat2_inj hf hg r).1 h2 y hy
    · intro h
      rw [h x (by simp), (flat2_inj hf hg r).2 fun y hy => h y (by simp [hy])]
/-- Two reports' bytes are the same if their words are. -/
theorem one_words {H : List UInt8} (hH : H.length = 2) {W W' : List Nat} (h1 : Small W) (h2 : Small W') : (H ++ (be W.length 2 ++ wB W) = (H ++ be W'.length 2) ++ wB W') ↔ W = W' := by
  constructor
  · intro h
    rw [← List.append_assoc] at h
    exact wB_inj h1 h2 (List.append_inj h (by simp [be_len])).2
  · rintro rfl
    rw [List.append_assoc]
theorem Rep.one_w {r : Rep} (hk : 1 ≤ r.kind ∧ r.kind ≤ 5) : r.one = [UInt8.ofNat (128 + r.tc.2.toNat), UInt8.ofNat r.tc.1.toNat] ++ (be r.ws.length 2 ++ wB r.ws) := by
  unfold Rep.one
  rw [Rep.tail_ws hk, wB_len, Nat.mul_div_cancel _ (by omega)]
theorem Small.cons {x : Nat} {l : List Nat} (hx : x < 4294967296) (hl : Small l) : Small (x :: l) := by
  intro y hy
  rcases List.mem_cons.1 hy with rfl | hy
  · exact hx
  · exact hl y hy
theorem Small.app {l m : List Nat} (hl : Small l) (hm : Small m) : Small (l ++ m) := by
  intro y hy
  rcases List.mem_append.1 hy with hy | hy
  · exact hl y hy
  · exact hm y hy
/-- A limit's or a set's words: as they were, but for the second one. -/
theorem tmm_iff {ws : List Nat} (hw : Small ws) (K : Int) (hK : K = 1 ∨ K = 2) (H : List UInt8) (hH : H.length = 2) (hok : ∀ t ∈ tupsR ws, t.ok = true) :
    (H ++ (be (Rep.ws ⟨K, ws.getD 0 0, 0, tupsR ws, [], [], 0, 0, 0, []⟩).length 2 ++ wB (Rep.ws ⟨K, ws.getD 0 0, 0, tupsR ws, [], [], 0, 0, 0, []⟩)) = shortN ((H ++ be ws.length 2) ++ wB ws) (tupsR ws) (tupsR ws).length) ↔ prB ws = true := by
  have hW : Rep.ws ⟨K, ws.getD 0 0, 0, tupsR ws, [], [], 0, 0, 0, []⟩ = ws.getD 0 0 :: 0 :: (tupsR ws).flatMap (fun t => [t.owner, t.word]) := by unfold Rep.ws; rw [if_pos hK]
  rw [hW]
  have hWl : (ws.getD 0 0 :: 0 :: (tupsR ws).flatMap (fun t => [t.owner, t.word])).length = 2 + 2 * ((ws.length - 2) / 2) := by
    simp only [List.length_cons]
    rw [flat_length (k := 2) (fun _ => rfl), tupsR_len]
    omega
  have hin := tupsR_in hw
  have hWs : Small (ws.getD 0 0 :: 0 :: (tupsR ws).flatMap (fun t => [t.owner, t.word])) := by
    refine (Small.cons (hw.at 0) (Small.cons (by omega) ?_))
    intro z hz
    obtain ⟨t, ht, hz⟩ := List.mem_flatMap.1 hz
    have i1 := (hin t ht).owner
    have i2 := (Tup.word_or (hin t ht).rate (hok t ht)).2.1
    simp at hz
    omega
  by_cases hl : 2 ≤ ws.length
  rotate_left
  · have h0 : (tupsR ws).length = 0 := by rw [tupsR_len]; omega
    rw [h0]
    have hp : prB ws = false := by unfold prB; rw [decide_eq_false hl]; rfl
    rw [hp]
    constructor
    · intro h
      have := congrArg List.length h
      simp only [shortN, List.length_append, be_len, wB_len, hWl] at this
      omega
    · intro h
      cases h
  obtain ⟨f, z, rest, hws⟩ : ∃ f z rest, ws = f :: z :: rest := by
    match ws, hl with
    | f :: z :: rest, _ => exact ⟨f, z, rest, rfl⟩
  have hrl : ws.length = rest.length + 2 := by rw [hws]; simp
  rw [shortN_wB (H ++ be ws.length 2) (by simp [hH, be_len]) ws (tupsR ws) _ (by rw [tupsR_len]; omega)]
  have hse := shortNW_eq hws (tupsR ws).length (by rw [tupsR_len]; omega)
  have hsl := shortNW_len ws (tupsR ws) (tupsR ws).length
  rw [List.take_of_length_le (Nat.le_refl _)] at hse
  by_cases he : ws.length % 2 = 0
  rotate_left
  · have hp : prB ws = false := by unfold prB; rw [decide_eq_false he]; simp
    rw [hp]
    constructor
    · intro h
      have := congrArg List.length h
      simp only [List.length_append, be_len, wB_len, hWl, hsl] at this
      omega
    · intro h
      cases h
  have hdr : rest.drop (2 * (tupsR ws).length) = [] := List.drop_eq_nil_of_le (by rw [tupsR_len]; omega)
  rw [hdr, List.append_nil] at hse
  have hz : ws.getD 1 0 = z := by rw [hws]; rfl
  have hf : ws.getD 0 0 = f := by rw [hws]; rfl
  have hp : prB ws = decide (z = 0) := by unfold prB; rw [decide_eq_true hl, decide_eq_true he, hz]; simp
  rw [hp, ← hsl, one_words hH hWs (by
    rw [hse, ← hf]
    refine Small.cons (hw.at 0) (Small.cons (by rw [← hz]; exact hw.at 1) ?_)
    exact fun y hy => hWs y (by simp [hy])), hse, hf]
  simp [eq_comm]
/-- Numbers of a Fir. -/
theorem fir_iff {ws : List Nat} (hw : Small ws) (H : List UInt8) (hH : H.length = 2) (hln : (absR ws).length = (numsR ws).length) :
    (H ++ (be (Rep.ws ⟨4, ws.getD 0 0, 0, [], absR ws, numsR ws, 0, 0, 0, []⟩).length 2 ++ wB (Rep.ws ⟨4, ws.getD 0 0, 0, [], absR ws, numsR ws, 0, 0, 0, []⟩)) = (H ++ be ws.length 2) ++ wB ws) ↔ frB ws = true := by
  have hzip : (absR ws).zip (numsR ws) = (pairs (ws.drop 2)).map (fun p => (p.1, ((p.2 / 16777216 : Nat) : Int))) := by
    unfold absR numsR
    rw [List.zip_map']
  have hW : Rep.ws ⟨4, ws.getD 0 0, 0, [], absR ws, numsR ws, 0, 0, 0, []⟩ = ws.getD 0 0 :: 0 :: (pairs (ws.drop 2)).flatMap (fun p => [p.1, p.2 / 16777216 * 16777216]) := by
    unfold Rep.ws
    rw [if_neg (by simp), if_pos rfl, hzip, List.flatMap_map]
    rfl
  rw [hW]
  have hWl : (ws.getD 0 0 :: 0 :: (pairs (ws.drop 2)).flatMap (fun p => [p.1, p.2 / 16777216 * 16777216])).length = 2 + 2 * ((ws.length - 2) / 2) := by
    simp only [List.length_cons]
    rw [flat_length (k := 2) (fun _ => rfl), pairs_len, List.length_drop]
    omega
  have hWs : Small (ws.getD 0 0 :: 0 :: (pairs (ws.drop 2)).flatMap (fun p => [p.1, p.2 / 16777216 * 16777216])) := by
    refine (Small.cons (hw.at 0) (Small.cons (by omega) ?_))
    intro z hz
    obtain ⟨p, hp, hz⟩ := List.mem_flatMap.1 hz
    obtain ⟨q, hq, rfl⟩ := List.getElem_of_mem hp
    rw [pairs_at _ _ hq] at hz
    have i1 := hw.at (2 * q + 2)
    have i2 := hw.at (2 * q + 1 + 2)
    rw [← drop2] at i1 i2
    simp only [List.mem_cons, List.not_mem_nil, or_false] at hz
    omega
  by_cases hl : 2 ≤ ws.length
  rotate_left
  · have hp : frB ws = false := by unfold frB prB; rw [decide_eq_false hl]; rfl
    rw [hp]
    constructor
    · intro h
      have := congrArg List.length h
      simp only [List.length_append, be_len, wB_len, hWl] at this
      omega
    · intro h
      cases h
  by_cases he : ws.length % 2 = 0
  rotate_left
  · have hp : frB ws = false := by unfold frB prB; rw [decide_eq_false he]; simp
    rw [hp]
    constructor
    · intro h
      have := congrArg List.length h
      simp only [List.length_append, be_len, wB_len, hWl] at this
      omega
    · intro h
      cases h
  obtain ⟨f, z, rest, hws⟩ : ∃ f z rest, ws = f :: z :: rest := by
    match ws, hl with
    | f :: z :: rest, _ => exact ⟨f, z, rest, rfl⟩
  have hrl : ws.length = rest.length + 2 := by rw [hws]; simp
  have h2 : ws.drop 2 = rest := by rw [hws]; rfl
  have hz : ws.getD 1 0 = z := by rw [hws]; rfl
  have hf : ws.getD 0 0 = f := by rw [hws]; rfl
  have hp : frB ws = (decide (z = 0) && (pairs rest).all fun p => decide (p.2 % 16777216 = 0)) := by
    unfold frB prB
    rw [decide_eq_true hl, decide_eq_true he, hz, h2]
    simp
  rw [hp, one_words hH hWs hw, hf, h2]
  have hfl := pairs_flat rest (by omega)
  have hin := flat2_inj (f := fun p : Nat × Nat => [p.1, p.2 / 16777216 * 16777216]) (g := fun p => [p.1, p.2]) (fun _ => rfl) (fun _ => rfl) (pairs rest)
  rw [hfl] at hin
  rw [hws]
  simp only [List.cons.injEq, true_and, Bool.and_eq_true, decide_eq_true_eq, List.all_eq_true]
  rw [hin]
  constructor
  · rintro ⟨h1, h3⟩
    refine ⟨h1.symm, fun p hp => ?_⟩
    have := h3 p hp
    simp only [List.cons.injEq, true_and, and_true] at this
    omega
  · rintro ⟨h1, h3⟩
    refine ⟨h1.symm, fun p hp => ?_⟩
    have := h3 p hp
    simp only [List.cons.injEq, true_and, and_true]
    omega
theorem byte16 {H : List UInt8} (hH : H.length = 4) {ws : List Nat} (hw : Small ws) (h : 4 ≤ ws.length) : ((H ++ wB ws).getD 16 0).toNat = ws.getD 3 0 / 16777216 := by
  obtain ⟨f, z, m, x, rest, hws⟩ : ∃ f z m x rest, ws = f :: z :: m :: x :: rest := by
    match ws, h with
    | f :: z :: m :: x :: rest, _ => exact ⟨f, z, m, x, rest, rfl⟩
  have hx : x < 4294967296 := hw x (by rw [hws]; simp)
  have e3 : ws.getD 3 0 = x := by rw [hws]; rfl
  rw [e3, hws]
  have e : H ++ wB (f :: z :: m :: x :: rest) = (H ++ (be f 4 ++ (be z 4 ++ be m 4))) ++ (be x 4 ++ wB rest) := by simp [wB]
  rw [e]
  have hl : (H ++ (be f 4 ++ (be z 4 ++ be m 4))).length = 16 := by simp [hH, be_len]
  rw [List.getD_eq_getElem?_getD, List.getElem?_append_right (by omega), hl, be_head 3]
  simp
  omega
theorem rembW_lt {n rate : Nat} (hn : n ≤ 255) (hr : rate < 18446744073709551616) : rembW n rate < 4294967296 := (remb_or2 hn hr).2.1
theorem remb_iff {ws : List Nat} (hw : Small ws) (H : List UInt8) (hH : H.length = 2) (R : Nat) (hR : R < 18446744073709551616) (hn : (ws.drop 4).length ≤ 16) :
    (H ++ (be (Rep.ws ⟨5, ws.getD 0 0, 0, [], ws.drop 4, [], R, 0, 0, []⟩).length 2 ++ wB (Rep.ws ⟨5, ws.getD 0 0, 0, [], ws.drop 4, [], R, 0, 0, []⟩)) = short0 ((H ++ be ws.length 2) ++ wB ws) ⟨5, ws.getD 0 0, 0, [], ws.drop 4, [], R, 0, 0, []⟩) ↔ rmB ws = true := by
  have hW : Rep.ws ⟨5, ws.getD 0 0, 0, [], ws.drop 4, [], R, 0, 0, []⟩ = [ws.getD 0 0, 0, 1380273474, rembW (ws.drop 4).length R] ++ ws.drop 4 := by
    unfold Rep.ws
    rw [if_neg (by simp), if_neg (by simp), if_pos rfl]
  rw [hW]
  have hxl : ((H ++ be ws.length 2) ++ wB ws).length = 4 + 4 * ws.length := by simp [hH, be_len, wB_len]; omega
  by_cases hl : 4 ≤ ws.length
  rotate_left
  · have hp : rmB ws = false := by unfold rmB; rw [decide_eq_false hl]; rfl
    rw [hp]
    unfold short0
    rw [if_neg (by rw [hxl]; omega)]
    constructor
    · intro h
      have := congrArg List.length h
      rw [hxl] at this
      simp only [List.length_append, be_len, wB_len, List.length_cons, List.length_nil] at this
      omega
    · intro h
      cases h
  unfold short0
  rw [if_pos ⟨rfl, by rw [hxl]; omega⟩, byte16 (by simp [hH, be_len]) hw hl, show 16 = 4 + 4 * 3 from rfl, setW_wB (H ++ be ws.length 2) (by simp [hH, be_len]) (by omega)]
  have hx3 := hw.at 3
  have h255 : ws.getD 3 0 / 16777216 ≤ 255 := by omega
  have hl4 : (ws.drop 4).length = ws.length - 4 := by rw [List.length_drop]
  have hWs : Small ([ws.getD 0 0, 0, 1380273474, rembW (ws.drop 4).length R] ++ ws.drop 4) := by
    refine Small.app (Small.cons (hw.at 0) (Small.cons (by omega) (Small.cons (by omega) (Small.cons (rembW_lt (by omega) hR) (fun x hx => by cases hx))))) (fun x hx => hw x (List.mem_of_mem_drop hx))
  have hsl : (ws.set 3 (rembW (ws.getD 3 0 / 16777216) R)).length = ws.length := by rw [List.length_set]
  have hss : Small (ws.set 3 (rembW (ws.getD 3 0 / 16777216) R)) := by
    intro x hx
    rcases List.mem_or_eq_of_mem_set hx with h | h
    · exact hw x h
    · rw [h]; exact rembW_lt h255 hR
  rw [← hsl, one_words hH hWs hss]
  obtain ⟨f, z, m, x, rest, hws⟩ : ∃ f z m x rest, ws = f :: z :: m :: x :: rest := by
    match ws, hl with
    | f :: z :: m :: x :: rest, _ => exact ⟨f, z, m, x, rest, rfl⟩
  unfold rmB
  rw [decide_eq_true hl, hl4]
  have e0 : ws.getD 0 0 = f := by rw [hws]; rfl
  have e1 : ws.getD 1 0 = z := by rw [hws]; rfl
  have e2 : ws.getD 2 0 = m := by rw [hws]; rfl
  have e3 : ws.getD 3 0 = x := by rw [hws]; rfl
  have e4 : ws.drop 4 = rest := by rw [hws]; rfl
  have e5 : ws.length - 4 = rest.length := by rw [hws]; simp
  have e6 : ∀ y, ws.set 3 y = f :: z :: m :: y :: rest := fun y => by rw [hws]; rfl
  rw [e0, e1, e2, e3, e4, e5, e6]
  simp only [List.cons_append, List.nil_append, List.cons.injEq, true_and, and_true, Bool.and_eq_true, decide_eq_true_eq, Bool.true_and]
  unfold rembW
  constructor
  · rintro ⟨h1, h2, h3⟩
    exact ⟨h1.symm, h2.symm, by omega⟩
  · rintro ⟨h1, h2, h3⟩
    exact ⟨h1.symm, h2.symm, by omega⟩
end Go.Proofs.Ytnchgmemajmkjaa
namespace Go.Proofs.Ytnchgmemajmkjaa
set_option linter.unusedVariables false
set_option linter.unusedSimpArgs false
set_option maxRecDepth 20000

theorem be_two (a b : UInt8) : be (num [a, b]) 2 = [a, b] := by
  have ha := a.toNat_lt
  have hb := b.toNat_lt
  have hn : num [a, b] = a.toNat * 256 + b.toNat := by simp [num]
  rw [hn, be_head 1, be_head 0]
  have h0 : be (a.toNat * 256 + b.toNat) 0 = [] := rfl
  rw [h0]
  have e : ∀ (x : UInt8) (n : Nat), n % 256 = x.toNat → UInt8.ofNat n = x := fun x n h => by
    apply UInt8.toNat_inj.1
    rw [UInt8.toNat_ofNat']
    exact h
  rw [e a _ (by omega), e b _ (by omega)]
theorem parse_tc (t c : Int) (ws : List Nat) : (parseR t c ws).tc = (t, c) := by
  rcases kindTC_cases t c with ⟨_, rfl, rfl⟩ | ⟨_, rfl, rfl⟩ | ⟨_, rfl, rfl⟩ | ⟨_, rfl, rfl⟩ | ⟨_, rfl, rfl⟩ | ⟨_, ho⟩
  · rfl
  · rfl
  · rfl
  · rfl
  · rfl
  · unfold parseR
    rw [if_pos ho]
    rfl
theorem rdX_eq {l : List UInt8} (hs : rdShort l = false) : rdX l = ([l.getD 0 0, l.getD 1 0] ++ be (wsOf ((rdX l).drop 4)).length 2) ++ wB (wsOf ((rdX l).drop 4)) ∧ Small (wsOf ((rdX l).drop 4)) := by
  unfold rdShort at hs
  simp at hs
  have hlen : (rdX l).length = 4 + 4 * rdN l := by
    unfold rdX
    rw [List.length_take]
    omega
  have hl4 : ((rdX l).drop 4).length = 4 * rdN l := by rw [List.length_drop, hlen]; omega
  obtain ⟨h1, h2, h3⟩ := wB_ws (rdN l) _ hl4
  refine ⟨?_, h3⟩
  rw [h1, h2]
  obtain ⟨a, b, c, d, r, hl⟩ : ∃ a b c d r, l = a :: b :: c :: d :: r := by
    match l, hs.1 with
    | a :: b :: c :: d :: r, _ => exact ⟨a, b, c, d, r, rfl⟩
  have hN : rdN l = num [c, d] := by unfold rdN; rw [hl]; rfl
  have h4 : (rdX l).take 4 = [a, b, c, d] := by
    unfold rdX
    rw [List.take_take, Nat.min_eq_left (by omega), hl]
    rfl
  have hb2 := be_two c d
  rw [← hN] at hb2
  have e0 : l.getD 0 0 = a := by rw [hl]; rfl
  have e1 : l.getD 1 0 = b := by rw [hl]; rfl
  rw [hb2, e0, e1]
  conv => lhs; rw [← List.take_append_drop 4 (rdX l), h4]
  rfl
theorem shortB_plain (x : List UInt8) {r : Rep} (h1 : r.kind ≠ 5) (h2 : r.tups = []) : shortB x r = x := by
  unfold shortB short0
  rw [h2, if_neg (fun h => h1 h.1)]
  rfl
theorem shape_iff {H : List UInt8} {t c : Int} {ws : List Nat} (hw : Small ws) (hH : H = [UInt8.ofNat (128 + c.toNat), UInt8.ofNat t.toNat]) (he : (parseR t c ws).err = 0) :
    shapeB (kindTC t c) ws = true ↔ (parseR t c ws).one = shortB ((H ++ be ws.length 2) ++ wB ws) (parseR t c ws) := by
  have hHl : H.length = 2 := by rw [hH]; rfl
  have htc := parse_tc t c ws
  obtain ⟨hk, hf, hb⟩ := Rep.err_zero he
  rcases kindTC_cases t c with ⟨hk', ht, hc⟩ | ⟨hk', ht, hc⟩ | ⟨hk', ht, hc⟩ | ⟨hk', ht, hc⟩ | ⟨hk', ht, hc⟩ | ⟨hk', ho⟩
  · have hp : parseR t c ws = ⟨1, ws.getD 0 0, 0, tupsR ws, [], [], 0, 0, 0, []⟩ := by rw [ht, hc]; rfl
    rw [hk', show shapeB 1 ws = prB ws from rfl]
    have hok : ∀ x ∈ tupsR ws, x.ok = true := by
      have h12 := Rep.fits_12 (r := parseR t c ws) (.inl (by rw [hp])) hf
      rw [hp] at h12
      unfold tupsOk at h12
      rw [Bool.and_eq_true, List.all_eq_true] at h12
      exact h12.1
    have h := tmm_iff hw 1 (.inl rfl) H hHl hok
    rw [Rep.one_w (by rw [hp]; simp), htc, ← hH, hp, ← h]
    rfl
  · have hp : parseR t c ws = ⟨2, ws.getD 0 0, 0, tupsR ws, [], [], 0, 0, 0, []⟩ := by rw [ht, hc]; rfl
    rw [hk', show shapeB 2 ws = prB ws from rfl]
    have hok : ∀ x ∈ tupsR ws, x.ok = true := by
      have h12 := Rep.fits_12 (r := parseR t c ws) (.inr (by rw [hp])) hf
      rw [hp] at h12
      unfold tupsOk at h12
      rw [Bool.and_eq_true, List.all_eq_true] at h12
      exact h12.1
    have h := tmm_iff hw 2 (.inr rfl) H hHl hok
    rw [Rep.one_w (by rw [hp]; simp), htc, ← hH, hp, ← h]
    rfl
  · have hp : parseR t c ws = ⟨3, ws.getD 0 0, ws.getD 1 0, [], [], [], 0, 0, 0, []⟩ := by rw [ht, hc]; rfl
    rw [hk', show shapeB 3 ws = decide (ws.length = 2) from rfl, shortB_plain _ (by rw [hp]; simp) (by rw [hp])]
    rw [Rep.one_w (by rw [hp]; simp), htc, ← hH, hp]
    have hW : Rep.ws ⟨3, ws.getD 0 0, ws.getD 1 0, [], [], [], 0, 0, 0, []⟩ = [ws.getD 0 0, ws.getD 1 0] := rfl
    rw [hW, one_words hHl (Small.cons (hw.at 0) (Small.cons (hw.at 1) (fun x hx => by cases hx))) hw]
    rw [decide_eq_true_eq]
    constructor
    · intro hl
      match ws, hl with
      | [a, b], _ => rfl
    · intro h
      rw [← h]
      rfl
  · have hp : parseR t c ws = ⟨4, ws.getD 0 0, 0, [], absR ws, numsR ws, 0, 0, 0, []⟩ := by rw [ht, hc]; rfl
    rw [hk', show shapeB 4 ws = frB ws from rfl, shortB_plain _ (by rw [hp]; simp) (by rw [hp])]
    have h := fir_iff hw H hHl (by rw [(firR_len ws).1, (firR_len ws).2])
    rw [Rep.one_w (by rw [hp]; simp), htc, ← hH, hp, ← h]
  · have hp : parseR t c ws = ⟨5, ws.getD 0 0, 0, [], ws.drop 4, [], opN (ws.getD 3 0 / 262144 % 64) (ws.getD 3 0 % 262144), 0, 0, []⟩ := by rw [ht, hc]; rfl
    rw [hk', show shapeB 5 ws = rmB ws from rfl]
    have h5 := Rep.fits_5 (r := parseR t c ws) (by rw [hp]) hf
    rw [hp] at h5
    have h := remb_iff hw H hHl (opN (ws.getD 3 0 / 262144 % 64) (ws.getD 3 0 % 262144)) (by unfold opN; omega) h5.1
    rw [Rep.one_w (by rw [hp]; simp), htc, ← hH, hp, ← h]
    rfl
  · have hp : parseR t c ws = ⟨6, 0, 0, [], [], [], 0, t, c, wB ws⟩ := if_pos ho
    rw [hk', show shapeB 6 ws = true from rfl, shortB_plain _ (by rw [hp]; simp) (by rw [hp])]
    constructor
    · intro _
      unfold Rep.one
      rw [htc, ← hH, hp]
      show H ++ (be ((wB ws).length / 4) 2 ++ wB ws) = _
      rw [wB_len, Nat.mul_div_cancel _ (by omega), List.append_assoc]
    · intro _
      rfl
theorem ok_eq {l : List UInt8} (hs : rdShort l = false) : okOne (l.getD 0 0).toNat (l.getD 1 0).toNat (wsOf ((rdX l).drop 4)) = (!rdForm l && !rdBad l) := by
  obtain ⟨hx, hw⟩ := rdX_eq hs
  have hR : rdR l = parseR (((l.getD 1 0).toNat : Nat) : Int) ((((l.getD 0 0).toNat % 32 : Nat)) : Int) (wsOf ((rdX l).drop 4)) := rfl
  unfold okOne
  have h0 := (l.getD 0 0).toNat_lt
  have h1 := (l.getD 1 0).toNat_lt
  by_cases hh : (l.getD 0 0).toNat / 32 = 4
  rotate_left
  · have hf : rdForm l = true := by unfold rdForm; rw [decide_eq_true hh]; rfl
    rw [decide_eq_false hh, hf]
    rfl
  rw [decide_eq_true hh, Bool.true_and, ← hR]
  by_cases he : (rdR l).err = 0
  rotate_left
  · have hb : rdBad l = true := by unfold rdBad; rw [decide_eq_true he]; rfl
    rw [decide_eq_false he, hb]
    simp
  have htc := Rep.tc_in he
  rw [hR, parse_tc] at htc
  have hf : rdForm l = false := by
    unfold rdForm rdT
    rw [Bool.or_eq_false_iff, Bool.or_eq_false_iff]
    simp only [decide_eq_false_iff_not]
    simp only at htc
    omega
  rw [hf, decide_eq_true he, Bool.and_true]
  have hbad : rdBad l = decide ((rdR l).one ≠ shortB (rdX l) (rdR l)) := by unfold rdBad; rw [decide_eq_false (fun h => h he)]; rfl
  rw [hbad]
  have e : ∀ (x : UInt8) (n : Nat), n % 256 = x.toNat → UInt8.ofNat n = x := fun x n h => by
    apply UInt8.toNat_inj.1
    rw [UInt8.toNat_ofNat']
    exact h
  have hH : [l.getD 0 0, l.getD 1 0] = [UInt8.ofNat (128 + ((((l.getD 0 0).toNat % 32 : Nat)) : Int).toNat), UInt8.ofNat (((l.getD 1 0).toNat : Nat) : Int).toNat] := by
    rw [e (l.getD 0 0) _ (by rw [Int.toNat_natCast]; omega), e (l.getD 1 0) _ (by rw [Int.toNat_natCast]; omega)]
  have h := shape_iff hw hH (by rw [← hR]; exact he)
  rw [← hx, ← hR] at h
  rw [Bool.eq_iff_iff, h]
  simp
end Go.Proofs.Ytnchgmemajmkjaa
namespace Go.Proofs.Ytnchgmemajmkjaa
set_option linter.unusedVariables false
set_option linter.unusedSimpArgs false
set_option maxRecDepth 20000

/-- A report as it lies: head, words. -/
def hw (x0 x1 : UInt8) (ws : List Nat) : List UInt8 := x0 :: x1 :: (be ws.length 2 ++ wB ws)
theorem hw_len (x0 x1 : UInt8) (ws : List Nat) : (hw x0 x1 ws).length = 4 + 4 * ws.length := by
  unfold hw
  simp [be_len, wB_len]
  omega
theorem hw_rdN (x0 x1 : UInt8) (ws : List Nat) (s : List UInt8) (hl : ws.length < 65536) : rdN (hw x0 x1 ws ++ s) = ws.length := by
  unfold rdN hw
  have h : ((x0 :: x1 :: (be ws.length 2 ++ wB ws) ++ s).drop 2).take 2 = be ws.length 2 := by
    show ((be ws.length 2 ++ wB ws) ++ s).take 2 = _
    rw [List.append_assoc, List.take_append_of_le_length (by rw [be_len]; omega)]
    exact List.take_of_length_le (by rw [be_len]; omega)
  rw [h, num_be]
  omega
theorem hw_rdX (x0 x1 : UInt8) (ws : List Nat) (s : List UInt8) (hl : ws.length < 65536) : rdX (hw x0 x1 ws ++ s) = hw x0 x1 ws := by
  unfold rdX
  rw [hw_rdN x0 x1 ws s hl, List.take_append_of_le_length (by rw [hw_len]; omega)]
  exact List.take_of_length_le (by rw [hw_len]; omega)
theorem hw_drop4 (x0 x1 : UInt8) (ws : List Nat) : (hw x0 x1 ws).drop 4 = wB ws := by
  have h2 : (be ws.length 2).length = 2 := be_len _ _
  show (be ws.length 2 ++ wB ws).drop 2 = _
  rw [List.drop_append_of_le_length (by omega), List.drop_of_length_le (by omega)]
  rfl
theorem hw_short (x0 x1 : UInt8) (ws : List Nat) (s : List UInt8) (hl : ws.length < 65536) : rdShort (hw x0 x1 ws ++ s) = false := by
  unfold rdShort
  rw [hw_rdN x0 x1 ws s hl]
  simp [hw_len]
  omega
theorem hw_rdR (x0 x1 : UInt8) (ws : List Nat) (s : List UInt8) (hl : ws.length < 65536) (hw' : Small ws) : rdR (hw x0 x1 ws ++ s) = parseR (x1.toNat : Int) ((x0.toNat % 32 : Nat) : Int) ws := by
  unfold rdR
  rw [hw_rdX x0 x1 ws s hl, hw_drop4, wsOf_wB hw']
  rfl
theorem rdAcc_words {f : Nat} {acc : List Rep} (x0 x1 : UInt8) (ws : List Nat) (s : List UInt8) (hl : ws.length < 65536) (hw' : Small ws) (hok : okOne x0.toNat x1.toNat ws = true) :
    rdAcc (f + 1) acc (hw x0 x1 ws ++ s) = rdAcc f (acc ++ [parseR (x1.toNat : Int) ((x0.toNat % 32 : Nat) : Int) ws]) s := by
  have hs := hw_short x0 x1 ws s hl
  have h := ok_eq hs
  rw [hw_rdX x0 x1 ws s hl, hw_drop4, wsOf_wB hw'] at h
  have h2 : okOne x0.toNat x1.toNat ws = (!rdForm (hw x0 x1 ws ++ s) && !rdBad (hw x0 x1 ws ++ s)) := h
  rw [hok] at h2
  have h3 := h2.symm
  simp only [Bool.and_eq_true, Bool.not_eq_true'] at h3
  rw [rdAcc_more (by rw [List.length_append, hw_len]; omega) hs h3.1 h3.2, hw_rdR x0 x1 ws s hl hw', hw_rdN x0 x1 ws s hl]
  congr 1
  rw [List.drop_append_of_le_length (by rw [hw_len]; omega), List.drop_of_length_le (by rw [hw_len]; omega)]
  rfl
/-- A rate in Remb, however it is written. -/
theorem remb_read (W : Nat) (hW : W < 16777216) (hr : W % 262144 * 2 ^ (W / 262144) < 18446744073709551616) :
    rdReps (hw 143 206 [0, 0, 1380273474, W]) = (0, [⟨5, 0, 0, [], [], [], W % 262144 * 2 ^ (W / 262144), 0, 0, []⟩]) := by
  have hS : Small [0, 0, 1380273474, W] := by
    intro x hx
    simp only [List.mem_cons, List.not_mem_nil, or_false] at hx
    omega
  have hp : parseR 206 15 [0, 0, 1380273474, W] = ⟨5, 0, 0, [], [], [], W % 262144 * 2 ^ (W / 262144), 0, 0, []⟩ := by
    have h : parseR 206 15 [0, 0, 1380273474, W] = ⟨5, 0, 0, [], [], [], opN (W / 262144 % 64) (W % 262144), 0, 0, []⟩ := rfl
    rw [h, Nat.mod_eq_of_lt (by omega), op_fits (by simpa using hr)]
  have hd : dnN (W % 262144 * 2 ^ (W / 262144)) 18 = W % 262144 * 2 ^ (W / 262144) := dnN_at rfl (by omega)
  have he : Rep.err ⟨5, 0, 0, [], [], [], W % 262144 * 2 ^ (W / 262144), 0, 0, []⟩ = 0 := by
    unfold Rep.err
    rw [if_neg (by simp), if_neg, if_neg]
    · simp [Rep.bare]
    · simp [Rep.fits, hd]
  have hok : okOne (143 : UInt8).toNat (206 : UInt8).toNat [0, 0, 1380273474, W] = true := by
    show (decide (143 / 32 = 4) && (shapeB (kindTC 206 15) [0, 0, 1380273474, W] && decide ((parseR 206 15 [0, 0, 1380273474, W]).err = 0))) = true
    rw [hp, he]
    have hs : shapeB (kindTC 206 15) [0, 0, 1380273474, W] = rmB [0, 0, 1380273474, W] := rfl
    rw [hs]
    unfold rmB
    simp
    omega
  have hl : (hw 143 206 [0, 0, 1380273474, W]).length = 20 := hw_len _ _ _
  unfold rdReps
  rw [if_neg (by omega), if_neg (by omega), hl]
  have h := rdAcc_words (f := 20) (acc := []) 143 206 [0, 0, 1380273474, W] [] (by simp) hS hok
  rw [List.append_nil] at h
  rw [h, rdAcc_end rfl]
  have hp2 : parseR (((206 : UInt8).toNat : Nat) : Int) ((((143 : UInt8).toNat % 32 : Nat)) : Int) [0, 0, 1380273474, W] = parseR 206 15 [0, 0, 1380273474, W] := rfl
  rw [hp2, hp]
  rfl
end Go.Proofs.Ytnchgmemajmkjaa
namespace Go.Proofs.Ytnchgmemajmkjaa
set_option linter.unusedVariables false
set_option linter.unusedSimpArgs false
set_option maxRecDepth 20000

theorem bare_nf {r : Rep} (h : r.bare = true) : (r.kind = 6 → r.src = 0) ∧ (r.kind ≠ 3 → r.about = 0) ∧ (r.kind ≠ 1 → r.kind ≠ 2 → r.tups = []) ∧ (r.kind ≠ 4 → r.kind ≠ 5 → r.abouts = []) ∧ (r.kind ≠ 4 → r.nums = []) ∧ (r.kind ≠ 5 → r.rate = 0) ∧
    (r.kind ≠ 6 → r.ty = 0 ∧ r.count = 0 ∧ r.body = []) := by
  unfold Rep.bare at h
  simp only [Bool.and_eq_true, Bool.not_eq_true', Bool.and_eq_false_iff, Bool.or_eq_true, decide_eq_true_eq, decide_eq_false_iff_not] at h
  obtain ⟨h1, h2, h3, h4, h5, h6, h7⟩ := h
  refine ⟨fun e => by omega, fun e => by omega, fun e e' => List.length_eq_zero_iff.1 (by omega), fun e e' => List.length_eq_zero_iff.1 (by omega), fun e => List.length_eq_zero_iff.1 (by omega), fun e => by omega, fun e => ⟨by omega, by omega, List.length_eq_zero_iff.1 (by omega)⟩⟩
theorem ok_of (x0 x1 : UInt8) (ws : List Nat) (r : Rep) (hh : x0.toNat / 32 = 4) (hp : parseR (x1.toNat : Int) ((x0.toNat % 32 : Nat) : Int) ws = r) (he : r.err = 0) (hs : shapeB (kindTC (x1.toNat : Int) ((x0.toNat % 32 : Nat) : Int)) ws = true) : okOne x0.toNat x1.toNat ws = true := by
  unfold okOne
  rw [hp, he, hs, decide_eq_true hh]
  rfl
theorem pairs_two {α : Type} (f g : α → Nat) : ∀ (l : List α), pairs (l.flatMap fun t => [f t, g t]) = l.map fun t => (f t, g t)
  | [] => rfl
  | x :: r => by
    have ih := pairs_two f g r
    show (f x, g x) :: pairs (r.flatMap fun t => [f t, g t]) = _
    rw [ih]
    rfl
theorem tup_back {t : Tup} (hi : t.In) (h : t.ok = true) : tupR (t.owner, t.word) = t := by
  have ho := Tup.ok_in h
  have hr := hi.rate
  have h1 := pkE_le (n := t.rate) (b := 17) (by omega) (by omega)
  have h2 := pkM_lt t.rate 17
  have hd : dnN t.rate 17 = t.rate := by
    unfold Tup.ok at h
    simp at h
    omega
  have h3 := op_pack (n := t.rate) (b := 17) (by omega)
  rw [hd] at h3
  obtain ⟨ow, ra, ov⟩ := t
  simp only at *
  unfold tupR Tup.word
  simp only
  generalize pkE ra 17 = E at *
  generalize pkM ra 17 = M at *
  have e1 : (E * 67108864 + M * 512 + ov.toNat) / 67108864 = E := by omega
  have e2 : (E * 67108864 + M * 512 + ov.toNat) / 512 % 131072 = M := by omega
  have e3 : (((E * 67108864 + M * 512 + ov.toNat) % 512 : Nat) : Int) = ov := by omega
  rw [e1, e2, e3, h3]
theorem tups_back {l : List Tup} (hi : ∀ t ∈ l, t.In) (h : tupsOk l = true) : (pairs (l.flatMap fun t => [t.owner, t.word])).map tupR = l := by
  unfold tupsOk at h
  rw [Bool.and_eq_true, List.all_eq_true] at h
  rw [pairs_two, List.map_map]
  conv => rhs; rw [← List.map_id l]
  exact List.map_congr_left fun t ht => tup_back (hi t ht) (h.1 t ht)
theorem word_lt {t : Tup} (hi : t.In) (h : t.ok = true) : t.word < 4294967296 := by
  have ho := Tup.ok_in h
  have hr := hi.rate
  have h1 := pkE_le (n := t.rate) (b := 17) (by omega) (by omega)
  have h2 := pkM_lt t.rate 17
  unfold Tup.word
  omega
/-- What lies there, and how it is read. -/
def Reads (r : Rep) : Prop := ∃ x0 x1 ws, r.one = hw x0 x1 ws ∧ ws.length < 65536 ∧ Small ws ∧ okOne x0.toNat x1.toNat ws = true ∧ parseR (x1.toNat : Int) ((x0.toNat % 32 : Nat) : Int) ws = r
theorem flat_two_len {α : Type} (f g : α → Nat) (l : List α) : (l.flatMap fun t => [f t, g t]).length = 2 * l.length := by
  induction l with
  | nil => rfl
  | cons x r ih => simp only [List.flatMap_cons, List.length_append, List.length_cons, List.length_nil, ih]; omega
theorem reads_tup {r : Rep} (K : Int) (x0 : UInt8) (hK : (K = 1 ∧ x0 = 131) ∨ (K = 2 ∧ x0 = 132)) (hk : r.kind = K) (he : r.err = 0) (hI : r.In) (hT : ∀ t ∈ r.tups, t.In) : Reads r := by
  obtain ⟨_, hf, hb⟩ := Rep.err_zero he
  have nf := bare_nf hb
  have ht := Rep.fits_12 (by omega) hf
  have hsrc := hI.src
  obtain ⟨k, s, a, t, ab, nu, ra, ty, co, bo⟩ := r
  simp only at hk nf ht hT hsrc
  subst hk
  obtain ⟨_, n2, _, n4, n5, n6, n7⟩ := nf
  have n2 := n2 (by omega)
  have n4 := n4 (by omega) (by omega)
  have n5 := n5 (by omega)
  have n6 := n6 (by omega)
  obtain ⟨n7, n8, n9⟩ := n7 (by omega)
  subst n2 n4 n5 n6 n7 n8 n9
  have h6 : t.length ≤ 6 ∧ ∀ x ∈ t, x.ok = true := by
    have := ht
    unfold tupsOk at this
    rw [Bool.and_eq_true, List.all_eq_true, decide_eq_true_eq] at this
    exact ⟨this.2, this.1⟩
  have hl := flat_two_len Tup.owner Tup.word t
  have hS : Small (s :: 0 :: t.flatMap fun t => [t.owner, t.word]) := by
    refine Small.cons hsrc (Small.cons (by omega) fun x hx => ?_)
    obtain ⟨u, hu, hx⟩ := List.mem_flatMap.1 hx
    simp only [List.mem_cons, List.not_mem_nil, or_false] at hx
    rcases hx with rfl | rfl
    · exact (hT u hu).owner
    · exact word_lt (hT u hu) (h6.2 u hu)
  have hpr : prB (s :: 0 :: t.flatMap fun t => [t.owner, t.word]) = true := by
    unfold prB
    simp only [List.length_cons, hl, Bool.and_eq_true, decide_eq_true_eq]
    exact ⟨by omega, by omega, rfl⟩
  rcases hK with ⟨rfl, rfl⟩ | ⟨rfl, rfl⟩
  · have hp : parseR ((205 : UInt8).toNat : Int) (((131 : UInt8).toNat % 32 : Nat) : Int) (s :: 0 :: t.flatMap fun t => [t.owner, t.word]) = ⟨1, s, 0, t, [], [], 0, 0, 0, []⟩ := by
      have h : parseR ((205 : UInt8).toNat : Int) (((131 : UInt8).toNat % 32 : Nat) : Int) (s :: 0 :: t.flatMap fun t => [t.owner, t.word]) = ⟨1, s, 0, (pairs (t.flatMap fun t => [t.owner, t.word])).map tupR, [], [], 0, 0, 0, []⟩ := rfl
      rw [h, tups_back hT ht]
    have hs : shapeB (kindTC ((205 : UInt8).toNat : Int) (((131 : UInt8).toNat % 32 : Nat) : Int)) (s :: 0 :: t.flatMap fun t => [t.owner, t.word]) = true := hpr
    refine ⟨131, 205, s :: 0 :: t.flatMap fun t => [t.owner, t.word], ?_, by simp only [List.length_cons, hl]; omega, hS, ok_of _ _ _ _ (by decide) hp he hs, hp⟩
    rw [Rep.one_w (by simp)]
    rfl
  · have hp : parseR ((205 : UInt8).toNat : Int) (((132 : UInt8).toNat % 32 : Nat) : Int) (s :: 0 :: t.flatMap fun t => [t.owner, t.word]) = ⟨2, s, 0, t, [], [], 0, 0, 0, []⟩ := by
      have h : parseR ((205 : UInt8).toNat : Int) (((132 : UInt8).toNat % 32 : Nat) : Int) (s :: 0 :: t.flatMap fun t => [t.owner, t.word]) = ⟨2, s, 0, (pairs (t.flatMap fun t => [t.owner, t.word])).map tupR, [], [], 0, 0, 0, []⟩ := rfl
      rw [h, tups_back hT ht]
    have hs : shapeB (kindTC ((205 : UInt8).toNat : Int) (((132 : UInt8).toNat % 32 : Nat) : Int)) (s :: 0 :: t.flatMap fun t => [t.owner, t.word]) = true := hpr
    refine ⟨132, 205, s :: 0 :: t.flatMap fun t => [t.owner, t.word], ?_, by simp only [List.length_cons, hl]; omega, hS, ok_of _ _ _ _ (by decide) hp he hs, hp⟩
    rw [Rep.one_w (by simp)]
    rfl
theorem reads_pli {r : Rep} (hk : r.kind = 3) (he : r.err = 0) (hI : r.In) : Reads r := by
  obtain ⟨_, hf, hb⟩ := Rep.err_zero he
  have nf := bare_nf hb
  have hsrc := hI.src
  have habt := hI.about
  obtain ⟨k, s, a, t, ab, nu, ra, ty, co, bo⟩ := r
  simp only at hk nf hsrc habt
  subst hk
  obtain ⟨_, _, n3, n4, n5, n6, n7⟩ := nf
  have n3 := n3 (by omega) (by omega)
  have n4 := n4 (by omega) (by omega)
  have n5 := n5 (by omega)
  have n6 := n6 (by omega)
  obtain ⟨n7, n8, n9⟩ := n7 (by omega)
  subst n3 n4 n5 n6 n7 n8 n9
  have hp : parseR ((206 : UInt8).toNat : Int) (((129 : UInt8).toNat % 32 : Nat) : Int) [s, a] = ⟨3, s, a, [], [], [], 0, 0, 0, []⟩ := rfl
  refine ⟨129, 206, [s, a], ?_, by simp, Small.cons hsrc (Small.cons habt fun x hx => by cases hx), ok_of _ _ _ _ (by decide) hp he rfl, hp⟩
  rw [Rep.one_w (by simp)]
  rfl
theorem zip_fst {α β : Type} : ∀ (l : List α) (m : List β), l.length = m.length → (l.zip m).map (·.1) = l
  | [], _, _ => by simp
  | x :: l, [], h => by simp at h
  | x :: l, y :: m, h => by
    have := zip_fst l m (by simpa using h)
    simp only [List.zip_cons_cons, List.map_cons, this]
theorem zip_nums : ∀ (l : List Nat) (m : List Int), l.length = m.length → (∀ n ∈ m, 0 ≤ n ∧ n ≤ 255) → (l.zip m).map (fun x => ((x.2.toNat * 16777216 / 16777216 : Nat) : Int)) = m
  | [], [], _, _ => rfl
  | [], y :: m, h, _ => by simp at h
  | x :: l, [], h, _ => by simp at h
  | x :: l, y :: m, h, hm => by
    have ih := zip_nums l m (by simpa using h) (fun n hn => hm n (by simp [hn]))
    have hy := hm y (by simp)
    simp only [List.zip_cons_cons, List.map_cons, ih]
    congr 1
    omega
theorem reads_fir {r : Rep} (hk : r.kind = 4) (he : r.err = 0) (hI : r.In) (hA : ∀ x ∈ r.abouts, x < 4294967296) : Reads r := by
  obtain ⟨_, hf, hb⟩ := Rep.err_zero he
  have nf := bare_nf hb
  obtain ⟨f1, f2, f3, f4⟩ := Rep.fits_4 hk hf
  have hsrc := hI.src
  obtain ⟨k, s, a, t, ab, nu, ra, ty, co, bo⟩ := r
  simp only at hk nf hsrc f1 f2 f3 f4 hA
  subst hk
  obtain ⟨_, n2, n3, _, _, n6, n7⟩ := nf
  have n2 := n2 (by omega)
  have n3 := n3 (by omega) (by omega)
  have n6 := n6 (by omega)
  obtain ⟨n7, n8, n9⟩ := n7 (by omega)
  subst n2 n3 n6 n7 n8 n9
  have hl := flat_two_len (fun x : Nat × Int => x.1) (fun x => x.2.toNat * 16777216) (ab.zip nu)
  have hz : (ab.zip nu).length = ab.length := by rw [List.length_zip]; omega
  have hpp := pairs_two (fun x : Nat × Int => x.1) (fun x => x.2.toNat * 16777216) (ab.zip nu)
  have hS : Small (s :: 0 :: (ab.zip nu).flatMap fun x => [x.1, x.2.toNat * 16777216]) := by
    refine Small.cons hsrc (Small.cons (by omega) fun x hx => ?_)
    obtain ⟨⟨u, n⟩, hu, hx⟩ := List.mem_flatMap.1 hx
    simp only [List.mem_cons, List.not_mem_nil, or_false] at hx
    rcases hx with rfl | rfl
    · exact hA _ (List.of_mem_zip hu).1
    · have := f4 _ (List.of_mem_zip hu).2
      omega
  have hfr : frB (s :: 0 :: (ab.zip nu).flatMap fun x => [x.1, x.2.toNat * 16777216]) = true := by
    unfold frB prB
    simp only [List.length_cons, hl, Bool.and_eq_true, decide_eq_true_eq, List.drop_succ_cons, List.drop_zero, hpp, List.all_eq_true]
    refine ⟨⟨by omega, by omega, rfl⟩, fun p hp => ?_⟩
    obtain ⟨q, _, rfl⟩ := List.mem_map.1 hp
    exact Nat.mul_mod_left _ _
  have hp : parseR ((206 : UInt8).toNat : Int) (((132 : UInt8).toNat % 32 : Nat) : Int) (s :: 0 :: (ab.zip nu).flatMap fun x => [x.1, x.2.toNat * 16777216]) = ⟨4, s, 0, [], ab, nu, 0, 0, 0, []⟩ := by
    have h : parseR ((206 : UInt8).toNat : Int) (((132 : UInt8).toNat % 32 : Nat) : Int) (s :: 0 :: (ab.zip nu).flatMap fun x => [x.1, x.2.toNat * 16777216]) = ⟨4, s, 0, [], (pairs ((ab.zip nu).flatMap fun x => [x.1, x.2.toNat * 16777216])).map (·.1), (pairs ((ab.zip nu).flatMap fun x => [x.1, x.2.toNat * 16777216])).map (fun p => ((p.2 / 16777216 : Nat) : Int)), 0, 0, 0, []⟩ := rfl
    rw [h, hpp, List.map_map, List.map_map]
    have e1 := zip_fst ab nu f1
    have e2 := zip_nums ab nu f1 f4
    have e1' : List.map ((fun x => x.fst) ∘ fun (t : Nat × Int) => (t.1, t.2.toNat * 16777216)) (ab.zip nu) = ab := e1
    have e2' : List.map ((fun (p : Nat × Nat) => ((p.2 / 16777216 : Nat) : Int)) ∘ fun (t : Nat × Int) => (t.1, t.2.toNat * 16777216)) (ab.zip nu) = nu := e2
    rw [e1', e2']
  have hs : shapeB (kindTC ((206 : UInt8).toNat : Int) (((132 : UInt8).toNat % 32 : Nat) : Int)) (s :: 0 :: (ab.zip nu).flatMap fun x => [x.1, x.2.toNat * 16777216]) = true := hfr
  refine ⟨132, 206, s :: 0 :: (ab.zip nu).flatMap fun x => [x.1, x.2.toNat * 16777216], ?_, by simp only [List.length_cons, hl, hz]; omega, hS, ok_of _ _ _ _ (by decide) hp he hs, hp⟩
  rw [Rep.one_w (by simp)]
  rfl
theorem reads_remb {r : Rep} (hk : r.kind = 5) (he : r.err = 0) (hI : r.In) (hA : ∀ x ∈ r.abouts, x < 4294967296) : Reads r := by
  obtain ⟨_, hf, hb⟩ := Rep.err_zero he
  have nf := bare_nf hb
  obtain ⟨f1, f2⟩ := Rep.fits_5 hk hf
  have hsrc := hI.src
  have hrt := hI.rate
  obtain ⟨k, s, a, t, ab, nu, ra, ty, co, bo⟩ := r
  simp only at hk nf hsrc f1 f2 hA hrt
  subst hk
  obtain ⟨_, n2, n3, _, n5, _, n7⟩ := nf
  have n2 := n2 (by omega)
  have n3 := n3 (by omega) (by omega)
  have n5 := n5 (by omega)
  obtain ⟨n7, n8, n9⟩ := n7 (by omega)
  subst n2 n3 n5 n7 n8 n9
  have h1 := pkE_le (n := ra) (b := 18) (by omega) (by omega)
  have h2 := pkM_lt ra 18
  have h3 := op_pack (n := ra) (b := 18) (by omega)
  rw [f2] at h3
  have hW := rembW_lt (n := ab.length) (rate := ra) (by omega) hrt
  have e1 : rembW ab.length ra / 262144 % 64 = pkE ra 18 := by unfold rembW; omega
  have e2 : rembW ab.length ra % 262144 = pkM ra 18 := by unfold rembW; omega
  have e3 : rembW ab.length ra / 16777216 = ab.length := by unfold rembW; omega
  have hS : Small (s :: 0 :: 1380273474 :: rembW ab.length ra :: ab) := Small.cons hsrc (Small.cons (by omega) (Small.cons (by omega) (Small.cons hW hA)))
  have hrm : rmB (s :: 0 :: 1380273474 :: rembW ab.length ra :: ab) = true := by
    unfold rmB
    simp only [List.length_cons, Bool.and_eq_true, decide_eq_true_eq]
    refine ⟨by omega, rfl, rfl, ?_⟩
    show rembW ab.length ra / 16777216 = _
    rw [e3]
    omega
  have hp : parseR ((206 : UInt8).toNat : Int) (((143 : UInt8).toNat % 32 : Nat) : Int) (s :: 0 :: 1380273474 :: rembW ab.length ra :: ab) = ⟨5, s, 0, [], ab, [], ra, 0, 0, []⟩ := by
    have h : parseR ((206 : UInt8).toNat : Int) (((143 : UInt8).toNat % 32 : Nat) : Int) (s :: 0 :: 1380273474 :: rembW ab.length ra :: ab) = ⟨5, s, 0, [], ab, [], opN (rembW ab.length ra / 262144 % 64) (rembW ab.length ra % 262144), 0, 0, []⟩ := rfl
    rw [h, e1, e2, h3]
  refine ⟨143, 206, s :: 0 :: 1380273474 :: rembW ab.length ra :: ab, ?_, by simp only [List.length_cons]; omega, hS, ok_of _ _ _ _ (by decide) hp he hrm, hp⟩
  rw [Rep.one_w (by simp)]
  rfl
theorem reads_other {r : Rep} (hk : r.kind = 6) (he : r.err = 0) : Reads r := by
  obtain ⟨_, hf, hb⟩ := Rep.err_zero he
  have nf := bare_nf hb
  obtain ⟨f1, f2, f3, f4, f5, f6, f7⟩ := Rep.fits_6 hk hf
  obtain ⟨k, s, a, t, ab, nu, ra, ty, co, bo⟩ := r
  simp only at hk nf f1 f2 f3 f4 f5 f6 f7
  subst hk
  obtain ⟨n1, n2, n3, n4, n5, n6, _⟩ := nf
  have n1 := n1 rfl
  have n2 := n2 (by omega)
  have n3 := n3 (by omega) (by omega)
  have n4 := n4 (by omega) (by omega)
  have n5 := n5 (by omega)
  have n6 := n6 (by omega)
  subst n1 n2 n3 n4 n5 n6
  obtain ⟨w1, w2, w3⟩ := wB_ws (bo.length / 4) bo (by omega)
  have x0 : (UInt8.ofNat (128 + co.toNat)).toNat = 128 + co.toNat := by rw [UInt8.toNat_ofNat']; omega
  have x1 : (UInt8.ofNat ty.toNat).toNat = ty.toNat := by rw [UInt8.toNat_ofNat']; omega
  have hc : (((128 + co.toNat) % 32 : Nat) : Int) = co := by omega
  have ht : ((ty.toNat : Nat) : Int) = ty := by omega
  have hp : parseR ((UInt8.ofNat ty.toNat).toNat : Int) (((UInt8.ofNat (128 + co.toNat)).toNat % 32 : Nat) : Int) (wsOf bo) = ⟨6, 0, 0, [], [], [], 0, ty, co, bo⟩ := by
    rw [x0, x1, hc, ht]
    unfold parseR
    rw [if_pos f7, w1]
  have hs : shapeB (kindTC ((UInt8.ofNat ty.toNat).toNat : Int) (((UInt8.ofNat (128 + co.toNat)).toNat % 32 : Nat) : Int)) (wsOf bo) = true := by
    rw [x0, x1, hc, ht]
    have h6 : kindTC ty co = 6 := by
      rcases kindTC_cases ty co with ⟨_, rfl, rfl⟩ | ⟨_, rfl, rfl⟩ | ⟨_, rfl, rfl⟩ | ⟨_, rfl, rfl⟩ | ⟨_, rfl, rfl⟩ | ⟨h, _⟩
      · exact absurd f7 (by decide)
      · exact absurd f7 (by decide)
      · exact absurd f7 (by decide)
      · exact absurd f7 (by decide)
      · exact absurd f7 (by decide)
      · exact h
    rw [h6]
    rfl
  refine ⟨UInt8.ofNat (128 + co.toNat), UInt8.ofNat ty.toNat, wsOf bo, ?_, by rw [w2]; omega, w3, ok_of _ _ _ _ (by rw [x0]; omega) hp he hs, hp⟩
  unfold hw
  rw [w1, w2]
  rfl
theorem reads_any {r : Rep} (he : r.err = 0) (hI : r.In) (hT : ∀ t ∈ r.tups, t.In) (hA : ∀ x ∈ r.abouts, x < 4294967296) : Reads r := by
  obtain ⟨hk, _⟩ := Rep.err_zero he
  have hc : r.kind = 1 ∨ r.kind = 2 ∨ r.kind = 3 ∨ r.kind = 4 ∨ r.kind = 5 ∨ r.kind = 6 := by omega
  rcases hc with h | h | h | h | h | h
  · exact reads_tup 1 131 (.inl ⟨rfl, rfl⟩) h he hI hT
  · exact reads_tup 2 132 (.inr ⟨rfl, rfl⟩) h he hI hT
  · exact reads_pli h he hI
  · exact reads_fir h he hI hA
  · exact reads_remb h he hI hA
  · exact reads_other h he
/-! ### Rows of reports -/
theorem rdAcc_ones : ∀ (L : List Rep), (∀ r ∈ L, Reads r) → ∀ (k : Nat) (acc : List Rep) (s : List UInt8), rdAcc (L.length + k) acc (onesB L ++ s) = rdAcc k (acc ++ L) s
  | [], _, k, acc, s => by simp [onesB]
  | r :: L, h, k, acc, s => by
    have ih := rdAcc_ones L (fun x hx => h x (by simp [hx])) k (acc ++ [r]) s
    obtain ⟨x0, x1, ws, h1, h2, h3, h4, h5⟩ := h r (by simp)
    have e : onesB (r :: L) ++ s = hw x0 x1 ws ++ (onesB L ++ s) := by
      show (r.one ++ onesB L) ++ s = _
      rw [h1, List.append_assoc]
    rw [e, show (r :: L).length + k = (L.length + k) + 1 by simp; omega, rdAcc_words x0 x1 ws _ h2 h3 h4, h5, ih, List.append_assoc]
    rfl
theorem ones_length (L : List Rep) : 4 * L.length ≤ (onesB L).length := by
  induction L with
  | nil => simp [onesB]
  | cons r L ih =>
    have e : onesB (r :: L) = r.one ++ onesB L := rfl
    rw [e, List.length_append, Rep.one_len, List.length_cons]
    omega
/-- Reports are read as they were written, one behind the other. -/
theorem rdReps_ones {L : List Rep} (h0 : L ≠ []) (h : ∀ r ∈ L, Reads r) (hl : (onesB L).length ≤ 1500) : rdReps (onesB L) = (0, L) := by
  have h4 := ones_length L
  have hL : 0 < L.length := List.length_pos_iff.2 h0
  unfold rdReps
  rw [if_neg (by omega), if_neg (by omega)]
  have e := rdAcc_ones L h ((onesB L).length + 1 - L.length) [] []
  rw [List.append_nil, show L.length + ((onesB L).length + 1 - L.length) = (onesB L).length + 1 by omega] at e
  rw [e, rdAcc_end rfl]
  rfl
theorem short_cut (x0 x1 : UInt8) (ws : List Nat) (hl : ws.length < 65536) (j : Nat) (hj : j < 4 + 4 * ws.length) : rdShort ((hw x0 x1 ws).take j) = true := by
  have hh := hw_len x0 x1 ws
  have hlen : ((hw x0 x1 ws).take j).length = j := by rw [List.length_take]; omega
  unfold rdShort
  rw [hlen]
  by_cases h4 : j < 4
  · rw [decide_eq_true h4]; rfl
  · have hN : rdN ((hw x0 x1 ws).take j) = ws.length := by
      have h := hw_rdN x0 x1 ws [] hl
      rw [List.append_nil] at h
      rw [← h]
      unfold rdN
      rw [List.drop_take, List.take_take, Nat.min_eq_left (by omega)]
    rw [hN, decide_eq_true hj, Bool.or_true]
/-- Cut off within a report, they are none. -/
theorem rdReps_cut {L : List Rep} {r : Rep} (h : ∀ x ∈ L, Reads x) (hr : Reads r) (j : Nat) (hj : 0 < j) (hj2 : j < r.one.length) (hl : (onesB L).length + j ≤ 1500) : rdReps (onesB L ++ r.one.take j) = (13, []) := by
  obtain ⟨x0, x1, ws, h1, h2, h3, h4, h5⟩ := hr
  have hlen : (r.one.take j).length = j := by rw [List.length_take]; omega
  have h4' := ones_length L
  rw [h1, hw_len] at hj2
  unfold rdReps
  rw [if_neg (by rw [List.length_append]; omega), if_neg (by rw [List.length_append]; omega)]
  have e := rdAcc_ones L h ((onesB L ++ r.one.take j).length - L.length) [] (r.one.take j)
  have hlb : (onesB L ++ r.one.take j).length = (onesB L).length + j := by rw [List.length_append, hlen]
  obtain ⟨f, hf⟩ : ∃ f, (onesB L ++ r.one.take j).length + 1 - L.length = f + 1 := ⟨(onesB L ++ r.one.take j).length - L.length, by omega⟩
  have e := rdAcc_ones L h (f + 1) [] (r.one.take j)
  rw [show (onesB L ++ r.one.take j).length + 1 = L.length + (f + 1) by omega, e]
  exact rdAcc_short (by omega) (by rw [h1]; exact short_cut x0 x1 ws h2 j hj2)
/-- Reports that are written alike are the same. -/
theorem one_inj {a b : Rep} (ha : Reads a) (hb : Reads b) (h : a.one = b.one) : a = b := by
  have e1 := rdAcc_ones [a] (by simpa using ha) 0 [] []
  have e2 := rdAcc_ones [b] (by simpa using hb) 0 [] []
  have h2 : onesB [a] = onesB [b] := by simp [onesB, h]
  rw [h2] at e1
  have e3 : ((0, [a]) : Int × List Rep) = (0, [b]) := e1.symm.trans e2
  have e4 := congrArg Prod.snd e3
  simpa using e4
end Go.Proofs.Ytnchgmemajmkjaa
