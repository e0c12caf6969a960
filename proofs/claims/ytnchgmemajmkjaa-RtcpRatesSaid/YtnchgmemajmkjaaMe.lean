/- What is read is right and would be written so, or it is none of its kind: the two ways of saying it are one. Plain mathematics. One report is read as the document's own answer reads it. Plain mathematics. Words that follow a head are read as one report. Plain mathematics. -/
import Derived.Test.YtnchgmemajmkjaaMj
import Derived.Test.YtnchgmemajmkjaaMd
import Derived.Test.YtnchgmemajmkjaaPcO
namespace Go.Proofs.Ytnchgmemajmkjaa
set_option linter.unusedVariables false
set_option linter.unusedSimpArgs false
set_option maxRecDepth 20000

theorem be4_cons (x : Nat) : ∃ a b c d, be x 4 = [a, b, c, d] := by
  have h := be_len 4 x
  match hb : be x 4, h with
  | [a, b, c, d], _ => exact ⟨a, b, c, d, rfl⟩
theorem wsOf_wB : ∀ {l : List Nat}, Small l → wsOf (wB l) = l
  | [], _ => rfl
  | x :: r, h => by
    have ih := wsOf_wB (l := r) (fun y hy => h y (by simp [hy]))
    have hx := h x (by simp)
    obtain ⟨a, b, c, d, e⟩ := be4_cons x
    have hn := num_be 4 x
    rw [e] at hn
    rw [wB_cons, e]
    show num [a, b, c, d] :: wsOf (wB r) = x :: r
    rw [ih, hn]
    congr 1
    omega
theorem wB_inj {l m : List Nat} (hl : Small l) (hm : Small m) (h : wB l = wB m) : l = m := by
  rw [← wsOf_wB hl, ← wsOf_wB hm, h]
theorem wB_append (l m : List Nat) : wB (l ++ m) = wB l ++ wB m := by simp [wB]
/-- A word of a row is written over. -/
theorem setW_wB (H : List UInt8) (hH : H.length = 4) {ws : List Nat} {i wd : Nat} (hi : i < ws.length) : setW (H ++ wB ws) (4 + 4 * i) wd = H ++ wB (ws.set i wd) := by
  have h1 : ws = ws.take i ++ (ws[i] :: ws.drop (i + 1)) := by
    rw [← List.drop_eq_getElem_cons hi, List.take_append_drop]
  have hl : (wB (ws.take i)).length = 4 * i := by rw [wB_len, List.length_take]; omega
  have h2 : ws.set i wd = ws.take i ++ (wd :: ws.drop (i + 1)) := by
    rw [List.set_eq_take_append_cons_drop, if_pos hi]
  unfold setW
  rw [h2]
  conv => lhs; rw [h1]
  rw [wB_append, wB_append, wB_cons, wB_cons]
  have ht : (H ++ (wB (ws.take i) ++ (be ws[i] 4 ++ wB (ws.drop (i + 1))))).take (4 + 4 * i) = H ++ wB (ws.take i) := by
    rw [← List.append_assoc, List.take_append_of_le_length (by rw [List.length_append, hH, hl]; omega)]
    exact List.take_of_length_le (by rw [List.length_append, hH, hl]; omega)
  have hd : (H ++ (wB (ws.take i) ++ (be ws[i] 4 ++ wB (ws.drop (i + 1))))).drop (4 + 4 * i + 4) = wB (ws.drop (i + 1)) := by
    have e : H ++ (wB (ws.take i) ++ (be ws[i] 4 ++ wB (ws.drop (i + 1)))) = (H ++ (wB (ws.take i) ++ be ws[i] 4)) ++ wB (ws.drop (i + 1)) := by simp
    rw [e]
    have hl2 : (H ++ (wB (ws.take i) ++ be ws[i] 4)).length = 4 + 4 * i + 4 := by
      rw [List.length_append, List.length_append, be_len, hH, hl]
      omega
    rw [← hl2, List.drop_left]
  rw [ht, hd]
  simp
def shortNW (ws : List Nat) (l : List Tup) : Nat → List Nat
  | 0 => ws
  | q + 1 => (shortNW ws l q).set (3 + 2 * q) ((l[q]?.map Tup.word).getD 0)
theorem shortNW_len (ws : List Nat) (l : List Tup) : ∀ q, (shortNW ws l q).length = ws.length
  | 0 => rfl
  | q + 1 => by
    unfold shortNW
    rw [List.length_set, shortNW_len ws l q]
theorem shortN_wB (H : List UInt8) (hH : H.length = 4) (ws : List Nat) (l : List Tup) : ∀ q, 2 + 2 * q ≤ ws.length → shortN (H ++ wB ws) l q = H ++ wB (shortNW ws l q)
  | 0, _ => rfl
  | q + 1, h => by
    unfold shortN shortNW
    rw [shortN_wB H hH ws l q (by omega), show 16 + 8 * q = 4 + 4 * (3 + 2 * q) by omega, setW_wB H hH (by rw [shortNW_len]; omega)]
theorem shortNW_eq {ws : List Nat} {f z : Nat} {rest : List Nat} (hws : ws = f :: z :: rest) : ∀ q, 2 * q ≤ rest.length → shortNW ws (tupsR ws) q = f :: z :: (((tupsR ws).take q).flatMap (fun t => [t.owner, t.word]) ++ rest.drop (2 * q))
  | 0, _ => by simp [shortNW, hws]
  | q + 1, h => by
    have ih := shortNW_eq hws q (by omega)
    have hq : q < (tupsR ws).length := by rw [tupsR_len, hws]; simp; omega
    have hq2 : q < (pairs (ws.drop 2)).length := by simpa [tupsR] using hq
    have h2 : ws.drop 2 = rest := by rw [hws]; rfl
    have hown : (tupsR ws)[q].owner = rest.getD (2 * q) 0 := by
      have h3 : (tupsR ws)[q] = tupR (pairs (ws.drop 2))[q] := by simp only [tupsR, List.getElem_map]
      rw [h3, pairs_at _ _ hq2, h2]
      rfl
    unfold shortNW
    rw [ih, List.getElem?_eq_getElem hq, Option.map_some, Option.getD_some]
    rw [show 3 + 2 * q = (2 * q + 1) + 1 + 1 by omega, List.set_cons_succ, List.set_cons_succ]
    have hl : (((tupsR ws).take q).flatMap (fun t => [t.owner, t.word])).length = 2 * q := by
      rw [flat_length (k := 2) (fun _ => rfl), List.length_take]
      omega
    rw [List.set_append, if_neg (by omega), hl, show 2 * q + 1 - 2 * q = 1 by omega]
    have hd : rest.drop (2 * q) = rest.getD (2 * q) 0 :: rest.getD (2 * q + 1) 0 :: rest.drop (2 * (q + 1)) := by
      rw [List.drop_eq_getElem_cons (by omega), List.drop_eq_getElem_cons (by omega), List.getD_eq_getElem?_getD, List.getD_eq_getElem?_getD, List.getElem?_eq_getElem (by omega), List.getElem?_eq_getElem (by omega)]
      rfl
    rw [hd, ← tupw_take hq, hown]
    simp
theorem pairs_flat : ∀ (l : List Nat), l.length % 2 = 0 → (pairs l).flatMap (fun p => [p.1, p.2]) = l
  | [], _ => rfl
  | [a], h => by simp at h
  | a :: b :: r, h => by
    have ih := pairs_flat r (by simp at h; omega)
    show [a, b] ++ (pairs r).flatMap (fun p => [p.1, p.2]) = _
    rw [ih]
    rfl
theorem flat2_inj {α : Type} {f g : α → List Nat} (hf : ∀ x, (f x).length = 2) (hg : ∀ x, (g x).length = 2) : ∀ (l : List α), l.flatMap f = l.flatMap g ↔ ∀ x ∈ l, f x = g x
  | [] => by simp
  | x :: r => by
    rw [List.flatMap_cons, List.flatMap_cons]
    constructor
    · intro h
      obtain ⟨h1, h2⟩ := List.append_inj h (by rw [hf, hg])
      intro y hy
      rcases List.mem_cons.1 hy with rfl | hy
      · exact h1
      · exact (flat2_inj hf hg r).1 h2 y hy
    · intro h
      rw [h x (by simp), (flat2_inj hf hg r).2 fun y hy => h y (by simp [hy])]
/-- Two reports' bytes are the same if their words are. -/
theorem one_words {H : List UInt8} (hH : H.length = 2) {W W' : List Nat} (h1 : Small W) (h2 : Small W') : (H ++ (be W.length 2 ++ wB W) = (H ++ be W'.length 2) ++ wB W') ↔ W = W' := by
  constructor
  · intro h
    rw [← List.append_assoc] at h
    exact wB_inj h1 h2 (List.append_inj h (by simp [be_len])).2
  · rintro rfl
    rw [List.append_assoc]
theorem Rep.one_w {r : Rep} (hk : 1 ≤ r.kind ∧ r.kind ≤ 5) : r.one = [UInt8.ofNat (128 + r.tc.2.toNat), UInt8.ofNat r.tc.1.toNat] ++ (be r.ws.length 2 ++ wB r.ws) := by
  unfold Rep.one
  rw [Rep.tail_ws hk, wB_len, Nat.mul_div_cancel _ (by omega)]
theorem Small.cons {x : Nat} {l : List Nat} (hx : x < 4294967296) (hl : Small l) : Small (x :: l) := by
  intro y hy
  rcases List.mem_cons.1 hy with rfl | hy
  · exact hx
  · exact hl y hy
theorem Small.app {l m : List Nat} (hl : Small l) (hm : Small m) : Small (l ++ m) := by
  intro y hy
  rcases List.mem_append.1 hy with hy | hy
  · exact hl y hy
  · exact hm y hy
/-- A limit's or a set's words: as they were, but for the second one. -/
theorem tmm_iff {ws : List Nat} (hw : Small ws) (K : Int) (hK : K = 1 ∨ K = 2) (H : List UInt8) (hH : H.length = 2) (hok : ∀ t ∈ tupsR ws, t.ok = true) :
    (H ++ (be (Rep.ws ⟨K, ws.getD 0 0, 0, tupsR ws, [], [], 0, 0, 0, []⟩).length 2 ++ wB (Rep.ws ⟨K, ws.getD 0 0, 0, tupsR ws, [], [], 0, 0, 0, []⟩)) = shortN ((H ++ be ws.length 2) ++ wB ws) (tupsR ws) (tupsR ws).length) ↔ prB ws = true := by
  have hW : Rep.ws ⟨K, ws.getD 0 0, 0, tupsR ws, [], [], 0, 0, 0, []⟩ = ws.getD 0 0 :: 0 :: (tupsR ws).flatMap (fun t => [t.owner, t.word]) := by unfold Rep.ws; rw [if_pos hK]
  rw [hW]
  have hWl : (ws.getD 0 0 :: 0 :: (tupsR ws).flatMap (fun t => [t.owner, t.word])).length = 2 + 2 * ((ws.length - 2) / 2) := by
    simp only [List.length_cons]
    rw [flat_length (k := 2) (fun _ => rfl), tupsR_len]
    omega
  have hin := tupsR_in hw
  have hWs : Small (ws.getD 0 0 :: 0 :: (tupsR ws).flatMap (fun t => [t.owner, t.word])) := by
    refine (Small.cons (hw.at 0) (Small.cons (by omega) ?_))
    intro z hz
    obtain ⟨t, ht, hz⟩ := List.mem_flatMap.1 hz
    have i1 := (hin t ht).owner
    have i2 := (Tup.word_or (hin t ht).rate (hok t ht)).2.1
    simp at hz
    omega
  by_cases hl : 2 ≤ ws.length
  rotate_left
  · have h0 : (tupsR ws).length = 0 := by rw [tupsR_len]; omega
    rw [h0]
    have hp : prB ws = false := by unfold prB; rw [decide_eq_false hl]; rfl
    rw [hp]
    constructor
    · intro h
      have := congrArg List.length h
      simp only [shortN, List.length_append, be_len, wB_len, hWl] at this
      omega
    · intro h
      cases h
  obtain ⟨f, z, rest, hws⟩ : ∃ f z rest, ws = f :: z :: rest := by
    match ws, hl with
    | f :: z :: rest, _ => exact ⟨f, z, rest, rfl⟩
  have hrl : ws.length = rest.length + 2 := by rw [hws]; simp
  rw [shortN_wB (H ++ be ws.length 2) (by simp [hH, be_len]) ws (tupsR ws) _ (by rw [tupsR_len]; omega)]
  have hse := shortNW_eq hws (tupsR ws).length (by rw [tupsR_len]; omega)
  have hsl := shortNW_len ws (tupsR ws) (tupsR ws).length
  rw [List.take_of_length_le (Nat.le_refl _)] at hse
  by_cases he : ws.length % 2 = 0
  rotate_left
  · have hp : prB ws = false := by unfold prB; rw [decide_eq_false he]; simp
    rw [hp]
    constructor
    · intro h
      have := congrArg List.length h
      simp only [List.length_append, be_len, wB_len, hWl, hsl] at this
      omega
    · intro h
      cases h
  have hdr : rest.drop (2 * (tupsR ws).length) = [] := List.drop_eq_nil_of_le (by rw [tupsR_len]; omega)
  rw [hdr, List.append_nil] at hse
  have hz : ws.getD 1 0 = z := by rw [hws]; rfl
  have hf : ws.getD 0 0 = f := by rw [hws]; rfl
  have hp : prB ws = decide (z = 0) := by unfold prB; rw [decide_eq_true hl, decide_eq_true he, hz]; simp
  rw [hp, ← hsl, one_words hH hWs (by
    rw [hse, ← hf]
    refine Small.cons (hw.at 0) (Small.cons (by rw [← hz]; exact hw.at 1) ?_)
    exact fun y hy => hWs y (by simp [hy])), hse, hf]
  simp [eq_comm]
/-- Numbers of a Fir. -/
theorem fir_iff {ws : List Nat} (hw : Small ws) (H : List UInt8) (hH : H.length = 2) (hln : (absR ws).length = (numsR ws).length) :
    (H ++ (be (Rep.ws ⟨4, ws.getD 0 0, 0, [], absR ws, numsR ws, 0, 0, 0, []⟩).length 2 ++ wB (Rep.ws ⟨4, ws.getD 0 0, 0, [], absR ws, numsR ws, 0, 0, 0, []⟩)) = (H ++ be ws.length 2) ++ wB ws) ↔ frB ws = true := by
  have hzip : (absR ws).zip (numsR ws) = (pairs (ws.drop 2)).map (fun p => (p.1, ((p.2 / 16777216 : Nat) : Int))) := by
    unfold absR numsR
    rw [List.zip_map']
  have hW : Rep.ws ⟨4, ws.getD 0 0, 0, [], absR ws, numsR ws, 0, 0, 0, []⟩ = ws.getD 0 0 :: 0 :: (pairs (ws.drop 2)).flatMap (fun p => [p.1, p.2 / 16777216 * 16777216]) := by
    unfold Rep.ws
    rw [if_neg (by simp), if_pos rfl, hzip, List.flatMap_map]
    rfl
  rw [hW]
  have hWl : (ws.getD 0 0 :: 0 :: (pairs (ws.drop 2)).flatMap (fun p => [p.1, p.2 / 16777216 * 16777216])).length = 2 + 2 * ((ws.length - 2) / 2) := by
    simp only [List.length_cons]
    rw [flat_length (k := 2) (fun _ => rfl), pairs_len, List.length_drop]
    omega
  have hWs : Small (ws.getD 0 0 :: 0 :: (pairs (ws.drop 2)).flatMap (fun p => [p.1, p.2 / 16777216 * 16777216])) := by
    refine (Small.cons (hw.at 0) (Small.cons (by omega) ?_))
    intro z hz
    obtain ⟨p, hp, hz⟩ := List.mem_flatMap.1 hz
    obtain ⟨q, hq, rfl⟩ := List.getElem_of_mem hp
    rw [pairs_at _ _ hq] at hz
    have i1 := hw.at (2 * q + 2)
    have i2 := hw.at (2 * q + 1 + 2)
    rw [← drop2] at i1 i2
    simp only [List.mem_cons, List.not_mem_nil, or_false] at hz
    omega
  by_cases hl : 2 ≤ ws.length
  rotate_left
  · have hp : frB ws = false := by unfold frB prB; rw [decide_eq_false hl]; rfl
    rw [hp]
    constructor
    · intro h
      have := congrArg List.length h
      simp only [List.length_append, be_len, wB_len, hWl] at this
      omega
    · intro h
      cases h
  by_cases he : ws.length % 2 = 0
  rotate_left
  · have hp : frB ws = false := by unfold frB prB; rw [decide_eq_false he]; simp
    rw [hp]
    constructor
    · intro h
      have := congrArg List.length h
      simp only [List.length_append, be_len, wB_len, hWl] at this
      omega
    · intro h
      cases h
  obtain ⟨f, z, rest, hws⟩ : ∃ f z rest, ws = f :: z :: rest := by
    match ws, hl with
    | f :: z :: rest, _ => exact ⟨f, z, rest, rfl⟩
  have hrl : ws.length = rest.length + 2 := by rw [hws]; simp
  have h2 : ws.drop 2 = rest := by rw [hws]; rfl
  have hz : ws.getD 1 0 = z := by rw [hws]; rfl
  have hf : ws.getD 0 0 = f := by rw [hws]; rfl
  have hp : frB ws = (decide (z = 0) && (pairs rest).all fun p => decide (p.2 % 16777216 = 0)) := by
    unfold frB prB
    rw [decide_eq_true hl, decide_eq_true he, hz, h2]
    simp
  rw [hp, one_words hH hWs hw, hf, h2]
  have hfl := pairs_flat rest (by omega)
  have hin := flat2_inj (f := fun p : Nat × Nat => [p.1, p.2 / 16777216 * 16777216]) (g := fun p => [p.1, p.2]) (fun _ => rfl) (fun _ => rfl) (pairs rest)
  rw [hfl] at hin
  rw [hws]
  simp only [List.cons.injEq, true_and, Bool.and_eq_true, decide_eq_true_eq, List.all_eq_true]
  rw [hin]
  constructor
  · rintro ⟨h1, h3⟩
    refine ⟨h1.symm, fun p hp => ?_⟩
    have := h3 p hp
    simp only [List.cons.injEq, true_and, and_true] at this
    omega
  · rintro ⟨h1, h3⟩
    refine ⟨h1.symm, fun p hp => ?_⟩
    have := h3 p hp
    simp only [List.cons.injEq, true_and, and_true]
    omega
theorem byte16 {H : List UInt8} (hH : H.length = 4) {ws : List Nat} (hw : Small ws) (h : 4 ≤ ws.length) : ((H ++ wB ws).getD 16 0).toNat = ws.getD 3 0 / 16777216 := by
  obtain ⟨f, z, m, x, rest, hws⟩ : ∃ f z m x rest, ws = f :: z :: m :: x :: rest := by
    match ws, h with
    | f :: z :: m :: x :: rest, _ => exact ⟨f, z, m, x, rest, rfl⟩
  have hx : x < 4294967296 := hw x (by rw [hws]; simp)
  have e3 : ws.getD 3 0 = x := by rw [hws]; rfl
  rw [e3, hws]
  have e : H ++ wB (f :: z :: m :: x :: rest) = (H ++ (be f 4 ++ (be z 4 ++ be m 4))) ++ (be x 4 ++ wB rest) := by simp [wB]
  rw [e]
  have hl : (H ++ (be f 4 ++ (be z 4 ++ be m 4))).length = 16 := by simp [hH, be_len]
  rw [List.getD_eq_getElem?_getD, List.getElem?_append_right (by omega), hl, be_head 3]
  simp
  omega
theorem rembW_lt {n rate : Nat} (hn : n ≤ 255) (hr : rate < 18446744073709551616) : rembW n rate < 4294967296 := (remb_or2 hn hr).2.1
theorem remb_iff {ws : List Nat} (hw : Small ws) (H : List UInt8) (hH : H.length = 2) (R : Nat) (hR : R < 18446744073709551616) (hn : (ws.drop 4).length ≤ 16) :
    (H ++ (be (Rep.ws ⟨5, ws.getD 0 0, 0, [], ws.drop 4, [], R, 0, 0, []⟩).length 2 ++ wB (Rep.ws ⟨5, ws.getD 0 0, 0, [], ws.drop 4, [], R, 0, 0, []⟩)) = short0 ((H ++ be ws.length 2) ++ wB ws) ⟨5, ws.getD 0 0, 0, [], ws.drop 4, [], R, 0, 0, []⟩) ↔ rmB ws = true := by
  have hW : Rep.ws ⟨5, ws.getD 0 0, 0, [], ws.drop 4, [], R, 0, 0, []⟩ = [ws.getD 0 0, 0, 1380273474, rembW (ws.drop 4).length R] ++ ws.drop 4 := by
    unfold Rep.ws
    rw [if_neg (by simp), if_neg (by simp), if_pos rfl]
  rw [hW]
  have hxl : ((H ++ be ws.length 2) ++ wB ws).length = 4 + 4 * ws.length := by simp [hH, be_len, wB_len]; omega
  by_cases hl : 4 ≤ ws.length
  rotate_left
  · have hp : rmB ws = false := by unfold rmB; rw [decide_eq_false hl]; rfl
    rw [hp]
    unfold short0
    rw [if_neg (by rw [hxl]; omega)]
    constructor
    · intro h
      have := congrArg List.length h
      rw [hxl] at this
      simp only [List.length_append, be_len, wB_len, List.length_cons, List.length_nil] at this
      omega
    · intro h
      cases h
  unfold short0
  rw [if_pos ⟨rfl, by rw [hxl]; omega⟩, byte16 (by simp [hH, be_len]) hw hl, show 16 = 4 + 4 * 3 from rfl, setW_wB (H ++ be ws.length 2) (by simp [hH, be_len]) (by omega)]
  have hx3 := hw.at 3
  have h255 : ws.getD 3 0 / 16777216 ≤ 255 := by omega
  have hl4 : (ws.drop 4).length = ws.length - 4 := by rw [List.length_drop]
  have hWs : Small ([ws.getD 0 0, 0, 1380273474, rembW (ws.drop 4).length R] ++ ws.drop 4) := by
    refine Small.app (Small.cons (hw.at 0) (Small.cons (by omega) (Small.cons (by omega) (Small.cons (rembW_lt (by omega) hR) (fun x hx => by cases hx))))) (fun x hx => hw x (List.mem_of_mem_drop hx))
  have hsl : (ws.set 3 (rembW (ws.getD 3 0 / 16777216) R)).length = ws.length := by rw [List.length_set]
  have hss : Small (ws.set 3 (rembW (ws.getD 3 0 / 16777216) R)) := by
    intro x hx
    rcases List.mem_or_eq_of_mem_set hx with h | h
    · exact hw x h
    · rw [h]; exact rembW_lt h255 hR
  rw [← hsl, one_words hH hWs hss]
  obtain ⟨f, z, m, x, rest, hws⟩ : ∃ f z m x rest, ws = f :: z :: m :: x :: rest := by
    match ws, hl with
    | f :: z :: m :: x :: rest, _ => exact ⟨f, z, m, x, rest, rfl⟩
  unfold rmB
  rw [decide_eq_true hl, hl4]
  have e0 : ws.getD 0 0 = f := by rw [hws]; rfl
  have e1 : ws.getD 1 0 = z := by rw [hws]; rfl
  have e2 : ws.getD 2 0 = m := by rw [hws]; rfl
  have e3 : ws.getD 3 0 = x := by rw [hws]; rfl
  have e4 : ws.drop 4 = rest := by rw [hws]; rfl
  have e5 : ws.length - 4 = rest.length := by rw [hws]; simp
  have e6 : ∀ y, ws.set 3 y = f :: z :: m :: y :: rest := fun y => by rw [hws]; rfl
  rw [e0, e1, e2, e3, e4, e5, e6]
  simp only [List.cons_append, List.nil_append, List.cons.injEq, true_and, and_true, Bool.and_eq_true, decide_eq_true_eq, Bool.true_and]
  unfold rembW
  constructor
  · rintro ⟨h1, h2, h3⟩
    exact ⟨h1.symm, h2.symm, by omega⟩
  · rintro ⟨h1, h2, h3⟩
    exact ⟨h1.symm, h2.symm, by omega⟩
end Go.Proofs.Ytnchgmemajmkjaa
namespace Go.Proofs.Ytnchgmemajmkjaa
set_option linter.unusedVariables false
set_option linter.unusedSimpArgs false
set_option maxRecDepth 20000

theorem be_two (a b : UInt8) : be (num [a, b]) 2 = [a, b] := by
  have ha := a.toNat_lt
  have hb := b.toNat_lt
  have hn : num [a, b] = a.toNat * 256 + b.toNat := by simp [num]
  rw [hn, be_head 1, be_head 0]
  have h0 : be (a.toNat * 256 + b.toNat) 0 = [] := rfl
  rw [h0]
  have e : ∀ (x : UInt8) (n : Nat), n % 256 = x.toNat → UInt8.ofNat n = x := fun x n h => by
    apply UInt8.toNat_inj.1
    rw [UInt8.toNat_ofNat']
    exact h
  rw [e a _ (by omega), e b _ (by omega)]
theorem parse_tc (t c : Int) (ws : List Nat) : (parseR t c ws).tc = (t, c) := by
  rcases kindTC_cases t c with ⟨_, rfl, rfl⟩ | ⟨_, rfl, rfl⟩ | ⟨_, rfl, rfl⟩ | ⟨_, rfl, rfl⟩ | ⟨_, rfl, rfl⟩ | ⟨_, ho⟩
  · rfl
  · rfl
  · rfl
  · rfl
  · rfl
  · unfold parseR
    rw [if_pos ho]
    rfl
theorem rdX_eq {l : List UInt8} (hs : rdShort l = false) : rdX l = ([l.getD 0 0, l.getD 1 0] ++ be (wsOf ((rdX l).drop 4)).length 2) ++ wB (wsOf ((rdX l).drop 4)) ∧ Small (wsOf ((rdX l).drop 4)) := by
  unfold rdShort at hs
  simp at hs
  have hlen : (rdX l).length = 4 + 4 * rdN l := by
    unfold rdX
    rw [List.length_take]
    omega
  have hl4 : ((rdX l).drop 4).length = 4 * rdN l := by rw [List.length_drop, hlen]; omega
  obtain ⟨h1, h2, h3⟩ := wB_ws (rdN l) _ hl4
  refine ⟨?_, h3⟩
  rw [h1, h2]
  obtain ⟨a, b, c, d, r, hl⟩ : ∃ a b c d r, l = a :: b :: c :: d :: r := by
    match l, hs.1 with
    | a :: b :: c :: d :: r, _ => exact ⟨a, b, c, d, r, rfl⟩
  have hN : rdN l = num [c, d] := by unfold rdN; rw [hl]; rfl
  have h4 : (rdX l).take 4 = [a, b, c, d] := by
    unfold rdX
    rw [List.take_take, Nat.min_eq_left (by omega), hl]
    rfl
  have hb2 := be_two c d
  rw [← hN] at hb2
  have e0 : l.getD 0 0 = a := by rw [hl]; rfl
  have e1 : l.getD 1 0 = b := by rw [hl]; rfl
  rw [hb2, e0, e1]
  conv => lhs; rw [← List.take_append_drop 4 (rdX l), h4]
  rfl
theorem shortB_plain (x : List UInt8) {r : Rep} (h1 : r.kind ≠ 5) (h2 : r.tups = []) : shortB x r = x := by
  unfold shortB short0
  rw [h2, if_neg (fun h => h1 h.1)]
  rfl
theorem shape_iff {H : List UInt8} {t c : Int} {ws : List Nat} (hw : Small ws) (hH : H = [UInt8.ofNat (128 + c.toNat), UInt8.ofNat t.toNat]) (he : (parseR t c ws).err = 0) :
    shapeB (kindTC t c) ws = true ↔ (parseR t c ws).one = shortB ((H ++ be ws.length 2) ++ wB ws) (parseR t c ws) := by
  have hHl : H.length = 2 := by rw [hH]; rfl
  have htc := parse_tc t c ws
  obtain ⟨hk, hf, hb⟩ := Rep.err_zero he
  rcases kindTC_cases t c with ⟨hk', ht, hc⟩ | ⟨hk', ht, hc⟩ | ⟨hk', ht, hc⟩ | ⟨hk', ht, hc⟩ | ⟨hk', ht, hc⟩ | ⟨hk', ho⟩
  · have hp : parseR t c ws = ⟨1, ws.getD 0 0, 0, tupsR ws, [], [], 0, 0, 0, []⟩ := by rw [ht, hc]; rfl
    rw [hk', show shapeB 1 ws = prB ws from rfl]
    have hok : ∀ x ∈ tupsR ws, x.ok = true := by
      have h12 := Rep.fits_12 (r := parseR t c ws) (.inl (by rw [hp])) hf
      rw [hp] at h12
      unfold tupsOk at h12
      rw [Bool.and_eq_true, List.all_eq_true] at h12
      exact h12.1
    have h := tmm_iff hw 1 (.inl rfl) H hHl hok
    rw [Rep.one_w (by rw [hp]; simp), htc, ← hH, hp, ← h]
    rfl
  · have hp : parseR t c ws = ⟨2, ws.getD 0 0, 0, tupsR ws, [], [], 0, 0, 0, []⟩ := by rw [ht, hc]; rfl
    rw [hk', show shapeB 2 ws = prB ws from rfl]
    have hok : ∀ x ∈ tupsR ws, x.ok = true := by
      have h12 := Rep.fits_12 (r := parseR t c ws) (.inr (by rw [hp])) hf
      rw [hp] at h12
      unfold tupsOk at h12
      rw [Bool.and_eq_true, List.all_eq_true] at h12
      exact h12.1
    have h := tmm_iff hw 2 (.inr rfl) H hHl hok
    rw [Rep.one_w (by rw [hp]; simp), htc, ← hH, hp, ← h]
    rfl
  · have hp : parseR t c ws = ⟨3, ws.getD 0 0, ws.getD 1 0, [], [], [], 0, 0, 0, []⟩ := by rw [ht, hc]; rfl
    rw [hk', show shapeB 3 ws = decide (ws.length = 2) from rfl, shortB_plain _ (by rw [hp]; simp) (by rw [hp])]
    rw [Rep.one_w (by rw [hp]; simp), htc, ← hH, hp]
    have hW : Rep.ws ⟨3, ws.getD 0 0, ws.getD 1 0, [], [], [], 0, 0, 0, []⟩ = [ws.getD 0 0, ws.getD 1 0] := rfl
    rw [hW, one_words hHl (Small.cons (hw.at 0) (Small.cons (hw.at 1) (fun x hx => by cases hx))) hw]
    rw [decide_eq_true_eq]
    constructor
    · intro hl
      match ws, hl with
      | [a, b], _ => rfl
    · intro h
      rw [← h]
      rfl
  · have hp : parseR t c ws = ⟨4, ws.getD 0 0, 0, [], absR ws, numsR ws, 0, 0, 0, []⟩ := by rw [ht, hc]; rfl
    rw [hk', show shapeB 4 ws = frB ws from rfl, shortB_plain _ (by rw [hp]; simp) (by rw [hp])]
    have h := fir_iff hw H hHl (by rw [(firR_len ws).1, (firR_len ws).2])
    rw [Rep.one_w (by rw [hp]; simp), htc, ← hH, hp, ← h]
  · have hp : parseR t c ws = ⟨5, ws.getD 0 0, 0, [], ws.drop 4, [], opN (ws.getD 3 0 / 262144 % 64) (ws.getD 3 0 % 262144), 0, 0, []⟩ := by rw [ht, hc]; rfl
    rw [hk', show shapeB 5 ws = rmB ws from rfl]
    have h5 := Rep.fits_5 (r := parseR t c ws) (by rw [hp]) hf
    rw [hp] at h5
    have h := remb_iff hw H hHl (opN (ws.getD 3 0 / 262144 % 64) (ws.getD 3 0 % 262144)) (by unfold opN; omega) h5.1
    rw [Rep.one_w (by rw [hp]; simp), htc, ← hH, hp, ← h]
    rfl
  · have hp : parseR t c ws = ⟨6, 0, 0, [], [], [], 0, t, c, wB ws⟩ := if_pos ho
    rw [hk', show shapeB 6 ws = true from rfl, shortB_plain _ (by rw [hp]; simp) (by rw [hp])]
    constructor
    · intro _
      unfold Rep.one
      rw [htc, ← hH, hp]
      show H ++ (be ((wB ws).length / 4) 2 ++ wB ws) = _
      rw [wB_len, Nat.mul_div_cancel _ (by omega), List.append_assoc]
    · intro _
      rfl
theorem ok_eq {l : List UInt8} (hs : rdShort l = false) : okOne (l.getD 0 0).toNat (l.getD 1 0).toNat (wsOf ((rdX l).drop 4)) = (!rdForm l && !rdBad l) := by
  obtain ⟨hx, hw⟩ := rdX_eq hs
  have hR : rdR l = parseR (((l.getD 1 0).toNat : Nat) : Int) ((((l.getD 0 0).toNat % 32 : Nat)) : Int) (wsOf ((rdX l).drop 4)) := rfl
  unfold okOne
  have h0 := (l.getD 0 0).toNat_lt
  have h1 := (l.getD 1 0).toNat_lt
  by_cases hh : (l.getD 0 0).toNat / 32 = 4
  rotate_left
  · have hf : rdForm l = true := by unfold rdForm; rw [decide_eq_true hh]; rfl
    rw [decide_eq_false hh, hf]
    rfl
  rw [decide_eq_true hh, Bool.true_and, ← hR]
  by_cases he : (rdR l).err = 0
  rotate_left
  · have hb : rdBad l = true := by unfold rdBad; rw [decide_eq_true he]; rfl
    rw [decide_eq_false he, hb]
    simp
  have htc := Rep.tc_in he
  rw [hR, parse_tc] at htc
  have hf : rdForm l = false := by
    unfold rdForm rdT
    rw [Bool.or_eq_false_iff, Bool.or_eq_false_iff]
    simp only [decide_eq_false_iff_not]
    simp only at htc
    omega
  rw [hf, decide_eq_true he, Bool.and_true]
  have hbad : rdBad l = decide ((rdR l).one ≠ shortB (rdX l) (rdR l)) := by unfold rdBad; rw [decide_eq_false (fun h => h he)]; rfl
  rw [hbad]
  have e : ∀ (x : UInt8) (n : Nat), n % 256 = x.toNat → UInt8.ofNat n = x := fun x n h => by
    apply UInt8.toNat_inj.1
    rw [UInt8.toNat_ofNat']
    exact h
  have hH : [l.getD 0 0, l.getD 1 0] = [UInt8.ofNat (128 + ((((l.getD 0 0).toNat % 32 : Nat)) : Int).toNat), UInt8.ofNat (((l.getD 1 0).toNat : Nat) : Int).toNat] := by
    rw [e (l.getD 0 0) _ (by rw [Int.toNat_natCast]; omega), e (l.getD 1 0) _ (by rw [Int.toNat_natCast]; omega)]
  have h := shape_iff hw hH (by rw [← hR]; exact he)
  rw [← hx, ← hR] at h
  rw [Bool.eq_iff_iff, h]
  simp
end Go.Proofs.Ytnchgmemajmkjaa
namespace Go.Proofs.Ytnchgmemajmkjaa
set_option linter.unusedVariables false
set_option linter.unusedSimpArgs false
set_option maxRecDepth 20000

/-- A report as it lies: head, words. -/
def hw (x0 x1 : UInt8) (ws : List Nat) : List UInt8 := x0 :: x1 :: (be ws.length 2 ++ wB ws)
theorem hw_len (x0 x1 : UInt8) (ws : List Nat) : (hw x0 x1 ws).length = 4 + 4 * ws.length := by
  unfold hw
  simp [be_len, wB_len]
  omega
theorem hw_rdN (x0 x1 : UInt8) (ws : List Nat) (s : List UInt8) (hl : ws.length < 65536) : rdN (hw x0 x1 ws ++ s) = ws.length := by
  unfold rdN hw
  have h : ((x0 :: x1 :: (be ws.length 2 ++ wB ws) ++ s).drop 2).take 2 = be ws.length 2 := by
    show ((be ws.length 2 ++ wB ws) ++ s).take 2 = _
    rw [List.append_assoc, List.take_append_of_le_length (by rw [be_len]; omega)]
    exact List.take_of_length_le (by rw [be_len]; omega)
  rw [h, num_be]
  omega
theorem hw_rdX (x0 x1 : UInt8) (ws : List Nat) (s : List UInt8) (hl : ws.length < 65536) : rdX (hw x0 x1 ws ++ s) = hw x0 x1 ws := by
  unfold rdX
  rw [hw_rdN x0 x1 ws s hl, List.take_append_of_le_length (by rw [hw_len]; omega)]
  exact List.take_of_length_le (by rw [hw_len]; omega)
theorem hw_drop4 (x0 x1 : UInt8) (ws : List Nat) : (hw x0 x1 ws).drop 4 = wB ws := by
  have h2 : (be ws.length 2).length = 2 := be_len _ _
  show (be ws.length 2 ++ wB ws).drop 2 = _
  rw [List.drop_append_of_le_length (by omega), List.drop_of_length_le (by omega)]
  rfl
theorem hw_short (x0 x1 : UInt8) (ws : List Nat) (s : List UInt8) (hl : ws.length < 65536) : rdShort (hw x0 x1 ws ++ s) = false := by
  unfold rdShort
  rw [hw_rdN x0 x1 ws s hl]
  simp [hw_len]
  omega
theorem hw_rdR (x0 x1 : UInt8) (ws : List Nat) (s : List UInt8) (hl : ws.length < 65536) (hw' : Small ws) : rdR (hw x0 x1 ws ++ s) = parseR (x1.toNat : Int) ((x0.toNat % 32 : Nat) : Int) ws := by
  unfold rdR
  rw [hw_rdX x0 x1 ws s hl, hw_drop4, wsOf_wB hw']
  rfl
theorem rdAcc_words {f : Nat} {acc : List Rep} (x0 x1 : UInt8) (ws : List Nat) (s : List UInt8) (hl : ws.length < 65536) (hw' : Small ws) (hok : okOne x0.toNat x1.toNat ws = true) :
    rdAcc (f + 1) acc (hw x0 x1 ws ++ s) = rdAcc f (acc ++ [parseR (x1.toNat : Int) ((x0.toNat % 32 : Nat) : Int) ws]) s := by
  have hs := hw_short x0 x1 ws s hl
  have h := ok_eq hs
  rw [hw_rdX x0 x1 ws s hl, hw_drop4, wsOf_wB hw'] at h
  have h2 : okOne x0.toNat x1.toNat ws = (!rdForm (hw x0 x1 ws ++ s) && !rdBad (hw x0 x1 ws ++ s)) := h
  rw [hok] at h2
  have h3 := h2.symm
  simp only [Bool.and_eq_true, Bool.not_eq_true'] at h3
  rw [rdAcc_more (by rw [List.length_append, hw_len]; omega) hs h3.1 h3.2, hw_rdR x0 x1 ws s hl hw', hw_rdN x0 x1 ws s hl]
  congr 1
  rw [List.drop_append_of_le_length (by rw [hw_len]; omega), List.drop_of_length_le (by rw [hw_len]; omega)]
  rfl
/-- A rate in Remb, however it is written. -/
theorem remb_read (W : Nat) (hW : W < 16777216) (hr : W % 262144 * 2 ^ (W / 262144) < 18446744073709551616) :
    rdReps (hw 143 206 [0, 0, 1380273474, W]) = (0, [⟨5, 0, 0, [], [], [], W % 262144 * 2 ^ (W / 262144), 0, 0, []⟩]) := by
  have hS : Small [0, 0, 1380273474, W] := by
    intro x hx
    simp only [List.mem_cons, List.not_mem_nil, or_false] at hx
    omega
  have hp : parseR 206 15 [0, 0, 1380273474, W] = ⟨5, 0, 0, [], [], [], W % 262144 * 2 ^ (W / 262144), 0, 0, []⟩ := by
    have h : parseR 206 15 [0, 0, 1380273474, W] = ⟨5, 0, 0, [], [], [], opN (W / 262144 % 64) (W % 262144), 0, 0, []⟩ := rfl
    rw [h, Nat.mod_eq_of_lt (by omega), op_fits (by simpa using hr)]
  have hd : dnN (W % 262144 * 2 ^ (W / 262144)) 18 = W % 262144 * 2 ^ (W / 262144) := dnN_at rfl (by omega)
  have he : Rep.err ⟨5, 0, 0, [], [], [], W % 262144 * 2 ^ (W / 262144), 0, 0, []⟩ = 0 := by
    unfold Rep.err
    rw [if_neg (by simp), if_neg, if_neg]
    · simp [Rep.bare]
    · simp [Rep.fits, hd]
  have hok : okOne (143 : UInt8).toNat (206 : UInt8).toNat [0, 0, 1380273474, W] = true := by
    show (decide (143 / 32 = 4) && (shapeB (kindTC 206 15) [0, 0, 1380273474, W] && decide ((parseR 206 15 [0, 0, 1380273474, W]).err = 0))) = true
    rw [hp, he]
    have hs : shapeB (kindTC 206 15) [0, 0, 1380273474, W] = rmB [0, 0, 1380273474, W] := rfl
    rw [hs]
    unfold rmB
    simp
    omega
  have hl : (hw 143 206 [0, 0, 1380273474, W]).length = 20 := hw_len _ _ _
  unfold rdReps
  rw [if_neg (by omega), if_neg (by omega), hl]
  have h := rdAcc_words (f := 20) (acc := []) 143 206 [0, 0, 1380273474, W] [] (by simp) hS hok
  rw [List.append_nil] at h
  rw [h, rdAcc_end rfl]
  have hp2 : parseR (((206 : UInt8).toNat : Nat) : Int) ((((143 : UInt8).toNat % 32 : Nat)) : Int) [0, 0, 1380273474, W] = parseR 206 15 [0, 0, 1380273474, W] := rfl
  rw [hp2, hp]
  rfl
end Go.Proofs.Ytnchgmemajmkjaa
