/- Contract: limelightref13's limit: Rate. Contract: limelightref13's limit: Tick. -/
import Derived.Test.YtfijlgkgbbemnaaLmM
import Derived.Test.YtfijlgkgbbemnaaRegD
namespace Go.Proofs.Ytfijlgkgbbemnaa
open Go.RowKit
set_option linter.unusedVariables false
set_option linter.unusedSimpArgs false
set_option maxRecDepth 20000

theorem min_i (a b m : Nat) (h : m = min a b) : (if (a : Int) < (b : Int) then (a : Int) else (b : Int)) = (m : Int) := by split <;> omega
theorem min_i2 (a b m : Nat) (h : m = min a b) : (if (b : Int) < (a : Int) then (b : Int) else (a : Int)) = (m : Int) := by split <;> omega
theorem min_n (a b m : Nat) (h : m = min a b) : (if a < b then (a : Int) else (b : Int)) = (m : Int) := by split <;> omega
theorem min_n2 (a b m : Nat) (h : m = min a b) : (if b < a then (b : Int) else (a : Int)) = (m : Int) := by split <;> omega
theorem minR_lt (l : List Ln) : minR l < 18446744073709551616 := Nat.lt_of_le_of_lt (minR_le l) (by omega)
set_option maxHeartbeats 2000000 in
theorem ref_rateL {w : World} {G c : Nat} {rb : Option Nat} {E : Ents} {v1 v2 : Value} (h : RlAt w G c rb E v1 v2) (hi : EntsOk E) (hc : c ≤ 1099511627776) (hrb : ∀ r, rb = some r → r ≤ 1099511627776) :
    Calls Try.prog 25 #[.pointer (some ⟨G, 0, none⟩)] w (AnsB (.int .i64 ((limV c rb E : Nat) : Int)) w) := by
  obtain ⟨⟨k0, k1, k2, k3⟩, f⟩ := h.cells
  obtain ⟨A, c1, rfl, r1⟩ := h.val1 hi
  have HV : Hid (limV c rb E = if E.length = 0 then rbC c rb else min (rbC c rb) (btR (minR (heldR E.T)))) := Lib.hid rfl
  have hcr := ref_rate13 A E.length c1 E.T w r1 (by have := hi.len; omega)
  have HTL : Hid ((heldR E.T).length = E.length) := Lib.hid (by unfold heldR; rw [List.length_map, E.T_len])
  generalize limV c rb E = V at HV ⊢
  obtain ⟨n, hn⟩ : ∃ n, n = E.length := ⟨_, rfl⟩
  rw [← hn] at k2 hcr HTL HV
  have hml := minR_lt (heldR E.T)
  have hrv0 := fun h0 : n = 0 => rateV_no (ls := heldR E.T) (by rw [HTL.out]; exact h0)
  have hrv1 := fun h0 : n ≠ 0 => rateV_yes (ls := heldR E.T) (by rw [HTL.out]; exact h0)
  generalize rateV (heldR E.T) = rv at hcr hrv0 hrv1
  generalize minR (heldR E.T) = mr at hml hrv1 HV
  have HRV := Lib.hid (⟨hrv0, hrv1⟩ : _ ∧ _)
  have HCR := Lib.hid hcr
  clear h r1 hcr hrv0 hrv1 hn k3 f HTL
  obtain ⟨n1, hn1⟩ : ∃ n1, n1 = rbC c rb := ⟨_, rfl⟩
  rw [← hn1] at HV
  by_cases hn0 : n = 0
  · have hV : V = n1 := by rw [HV.out, if_pos hn0]
    subst hV
    have hrv := HRV.out.1 hn0
    subst hrv
    clear hn0
    cases rb with
    | none =>
      have e1 : V = c := hn1
      subst e1
      have t0 : ¬ (0 : Int) ≤ -1 := by omega
      clear hn1 HV
      replace k1 : w.cell? ⟨G, 1, none⟩ = some (.int .i64 (-1)) := k1
      go_enter Try.func25, Try.ntmps25
      go_wp2_with fail
      ((with_reducible refine HCR.out.mono ?_); rintro e w1 ⟨rfl, d1⟩)
      have HD := Lib.hid d1
      clear d1
      go_wp2_with fail
      go_ret
      exact ⟨rfl, HD.out⟩
    | some r =>
      have e1 : V = min c r := hn1
      have q1 := min_i c r V e1
      have q2 := min_i2 c r V e1
      have q3 := min_n c r V e1
      have q4 := min_n2 c r V e1
      have t0 : (0 : Int) ≤ (r : Int) := by omega
      clear hn1 HV e1
      replace k1 : w.cell? ⟨G, 1, none⟩ = some (.int .i64 (r : Int)) := k1
      go_enter Try.func25, Try.ntmps25
      go_wp2_with fail
      ((with_reducible refine HCR.out.mono ?_); rintro e w1 ⟨rfl, d1⟩)
      have HD := Lib.hid d1
      clear d1
      go_wp2_with fail
      go_ret
      exact ⟨rfl, HD.out⟩
  · have hV : V = min n1 (btR mr) := by rw [HV.out, if_neg hn0]
    have hrv := HRV.out.2 hn0
    subst hrv
    have HB := Lib.hid (fun W => ref_rate mr W hml)
    generalize btR mr = bt at HB hV
    have p1 := min_i n1 bt V hV
    have p2 := min_i2 n1 bt V hV
    have p3 := min_n n1 bt V hV
    have p4 := min_n2 n1 bt V hV
    clear hV HV
    cases rb with
    | none =>
      have e1 : n1 = c := hn1
      subst e1
      have t0 : ¬ (0 : Int) ≤ -1 := by omega
      clear hn1
      replace k1 : w.cell? ⟨G, 1, none⟩ = some (.int .i64 (-1)) := k1
      go_enter Try.func25, Try.ntmps25
      go_wp2_with fail
      ((with_reducible refine HCR.out.mono ?_); rintro e w1 ⟨rfl, d1⟩)
      have HD := Lib.hid d1
      clear d1
      go_wp2_with fail
      ((with_reducible refine (HB.out _).mono ?_); rintro e w2 ⟨rfl, d2⟩)
      have HD2 := Lib.hid (HD.out.trans (d2.mono HD.out.size))
      clear d2
      go_wp2_with fail
      go_ret
      exact ⟨rfl, HD2.out⟩
    | some r =>
      have e1 : n1 = min c r := hn1
      have q1 := min_i c r n1 e1
      have q2 := min_i2 c r n1 e1
      have q3 := min_n c r n1 e1
      have q4 := min_n2 c r n1 e1
      have t0 : (0 : Int) ≤ (r : Int) := by omega
      clear hn1 e1
      replace k1 : w.cell? ⟨G, 1, none⟩ = some (.int .i64 (r : Int)) := k1
      go_enter Try.func25, Try.ntmps25
      go_wp2_with fail
      ((with_reducible refine HCR.out.mono ?_); rintro e w1 ⟨rfl, d1⟩)
      have HD := Lib.hid d1
      clear d1
      go_wp2_with fail
      ((with_reducible refine (HB.out _).mono ?_); rintro e w2 ⟨rfl, d2⟩)
      have HD2 := Lib.hid (HD.out.trans (d2.mono HD.out.size))
      clear d2
      go_wp2_with fail
      go_ret
      exact ⟨rfl, HD2.out⟩
end Go.Proofs.Ytfijlgkgbbemnaa
namespace Go.Proofs.Ytfijlgkgbbemnaa
open Go.RowKit
set_option linter.unusedVariables false
set_option linter.unusedSimpArgs false
set_option maxRecDepth 20000

/-- What a method leaves that turns the reference's limit. -/
def RlOut (G c : Nat) (rb : Option Nat) (E : Ents) (v1 v2 : Value) (v : Value) (w : World) (e : Ending) (w' : World) : Prop :=
  e = .returned v ∧ ∃ v1' v2', RlAt w' G c rb E v1' v2' ∧ (∀ k, RlS G v1' v2' k → RlS G v1 v2 k ∨ w.heap.size ≤ k) ∧ OnlyS (RlS G v1 v2) w w'
def tkF (w0 : World) : Frame where
  I := fun W => Below w0.heap.size w0 W
  Fr := fun a b => Below a.heap.size a b
  refl := fun w _ => Below.refl _ w
  trans := fun a b c h k => h.trans (k.mono h.size)
  drew := fun W h => ⟨h.trans ((belowDrewN W 1).mono h.size), belowDrewN W 1⟩
def tkT (w0 : World) (xo xr : Nat) (xv : Int) : ClF (tkF w0) := .pred (fun v W => ∃ g, v = .slice (some ⟨g, 0, none⟩) 1 1 ∧ Blk W g 31 #[.int .u32 (xo : Int), .int .u64 (xr : Int), .int .i64 xv]) (fun v a b _ hf _ h => by
  obtain ⟨g, e, h2⟩ := h
  exact ⟨g, e, (hf.block g h2.lt).trans h2⟩)
def tkV (w0 : World) (u : Int) : ClF (tkF w0) := .pred (fun v W => ∃ g, v = .slice (some ⟨g, 0, none⟩) 1 1 ∧ Blk W g 2 #[.int .i64 u]) (fun v a b _ hf _ h => by
  obtain ⟨g, e, h2⟩ := h
  exact ⟨g, e, (hf.block g h2.lt).trans h2⟩)
def tkK (w0 : World) (L : List Tup) : ClF (tkF w0) := .pred (fun v W => OwnTp W w0.heap.size v L) (fun v a b _ hf _ h => h.on hf)
def tkU (w0 : World) (L : List Int) : ClF (tkF w0) := .pred (fun v W => OwnV W w0.heap.size v L) (fun v a b _ hf _ h => h.on hf)
theorem tkT_of {w0 : World} {xo xr : Nat} {xv : Int} {c : ClF (tkF w0)} {v : Value} {W : World} (h : c.holds v W) (e : c = tkT w0 xo xr xv) : ∃ g, v = .slice (some ⟨g, 0, none⟩) 1 1 ∧ Blk W g 31 #[.int .u32 (xo : Int), .int .u64 (xr : Int), .int .i64 xv] := by subst e; exact h
theorem tkV_of {w0 : World} {u : Int} {c : ClF (tkF w0)} {v : Value} {W : World} (h : c.holds v W) (e : c = tkV w0 u) : ∃ g, v = .slice (some ⟨g, 0, none⟩) 1 1 ∧ Blk W g 2 #[.int .i64 u] := by subst e; exact h
theorem tkK_of {w0 : World} {L : List Tup} {c : ClF (tkF w0)} {v : Value} {W : World} (h : c.holds v W) (e : c = tkK w0 L) : OwnTp W w0.heap.size v L := by subst e; exact h
theorem tkU_of {w0 : World} {L : List Int} {c : ClF (tkF w0)} {v : Value} {W : World} (h : c.holds v W) (e : c = tkU w0 L) : OwnV W w0.heap.size v L := by subst e; exact h
theorem own_less {w : World} {base b2 size n : Nat} {e : TypeId} {v : Value} {xs : List Value} (h : w.ownsRow base e size v n xs) (hb : b2 ≤ base) : w.ownsRow b2 e size v n xs := by
  refine ⟨h.1, ?_⟩
  rcases h.2 with h1 | ⟨g, cap, cur, hv, hg⟩
  · exact .inl h1
  · exact .inr ⟨g, cap, cur, hv, Nat.le_trans hb hg.1, hg.2⟩
theorem own_grown {w w' : World} {base size n : Nat} {e : TypeId} {v : Value} {xs : List Value} {row : Option Nat} (h : w.ownsRow base e size v n xs) (hg : w.grownBy w' row) (hne : ∀ k, v.ownBlock = some k → row ≠ some k) : w'.ownsRow base e size v n xs :=
  World.ownsRow.kept h hg (by
    cases hv : v.ownBlock with
    | none => exact .inl rfl
    | some k => exact .inr fun e => hne k hv e.symm)
theorem run_op_append {o : Oper} {ev : Operand → Value} {w w' : World} (s x : Operand) (t : TypeId) (ho : o.op = .call { callee := .builtin .append, args := #[s, x], argTypes := #[t, t] }) (hty : o.type = t) (v v' y : Value)
    (hs : ev s = v) (hx : ev x = y) (hrun : (Builtin.append_ #[t, t] t #[v, y]).run Try.prog w = .ok v' w') : (execOp ev o).run Try.prog w = .ok (.value v') w' := by
  unfold execOp
  simp only [ho, hty, resolve, invoke, builtin, Sem.run_bind, Sem.run_pure, Result.andThen_ok, List.map_toArray, List.map_cons, List.map_nil, hs, hx, hrun]
theorem one_rt_b {W : World} {g o r : Nat} {v : Int} (h : Blk W g 31 #[.int .u32 (o : Int), .int .u64 (r : Int), .int .i64 v]) (hi : (⟨o, r, v⟩ : Tup).In) : RT W W.heap.size (some ⟨g, 0, none⟩) 1 1 [⟨o, r, v⟩] := by
  refine ⟨rfl, by simpa using hi, ⟨rfl, Nat.le_refl _, fun _ => ⟨g, 0, rfl, h.lt, fun j v hj => ?_⟩⟩⟩
  rw [Nat.zero_add, h.cell j, ← hj]
  simp [cellsT, Tup.cells]
theorem one_rx_b {W : World} {g : Nat} {u : Int} (h : Blk W g 2 #[.int .i64 u]) : RX W W.heap.size (some ⟨g, 0, none⟩) 1 1 1 ([u].map lv) := by
  refine ⟨rfl, Nat.le_refl _, fun _ => ⟨g, 0, rfl, h.lt, fun j v hj => ?_⟩⟩
  rw [Nat.zero_add, h.cell j, ← hj]
  simp [lv]
theorem rx_at {w : World} {B : Nat} {A : Option Addr} {n c : Nat} {l : List Int} (h : RX w B A n c 1 (l.map lv)) {q : Nat} (hq : q < l.length) : ∃ b off, A = some ⟨b, off, none⟩ ∧ b < B ∧ w.cell? ⟨b, off + q, none⟩ = some (.int .i64 l[q]) := by
  have hl := h.1
  rw [List.length_map] at hl
  obtain ⟨b, off, e, hb, hc⟩ := h.2.2 (by omega)
  exact ⟨b, off, e, hb, hc q _ (by simp [hq, lv])⟩
theorem tick_succ {E : Ents} {now : Int} {q : Nat} (h : q < E.length) : tickE (E.take (q + 1)) now = tickE (E.take q) now ++ (if now < E[q].u then [E[q]] else []) := by
  unfold tickE
  rw [List.take_succ_eq_append_getElem h, List.filter_append]
  congr 1
  by_cases hc : now < E[q].u
  · simp [hc]
  · simp [hc]
set_option maxHeartbeats 8000000 in
theorem ref_tickL {w : World} {G c : Nat} {rb : Option Nat} {E : Ents} {v1 v2 : Value} (h : RlAt w G c rb E v1 v2) (hi : EntsOk E) {now : Int} (hnow : I64 now) :
    Calls Try.prog 23 #[.pointer (some ⟨G, 0, none⟩), .int .i64 now] w (RlOut G c rb (tickE E now) v1 v2 (.int .i64 ((E.length - (tickE E now).length : Nat) : Int)) w) := by
  obtain ⟨⟨k0, k1, k2, k3⟩, f⟩ := h.cells
  obtain ⟨A1, c1, rfl, r1⟩ := h.val1 hi
  obtain ⟨A2, c2, rfl, r2⟩ := h.val2
  obtain ⟨n, hn⟩ : ∃ n, n = E.length := ⟨_, rfl⟩
  rw [← hn] at k2 k3 r1 r2 ⊢
  have HQ := Lib.hid (⟨by rw [hn]; exact h, hi, hn⟩ : RlAt w G c rb E (.slice A1 n c1) (.slice A2 n c2) ∧ EntsOk E ∧ n = E.length)
  have HR := Lib.hid (⟨r1, r2⟩ : _ ∧ _)
  have HC := Lib.hid (⟨h.blk.lt, k2, k3⟩ : _ ∧ _ ∧ _)
  have hn6 : n ≤ 6 := by have := hi.len; omega
  clear h hi k0 k1 f r1 r2 hn
  go_enter Try.func23, Try.ntmps23
  go_wp2_with fail
  go_loopw [5, 6, 7, 14] (fun vk vu _ i wr => ∃ (q kq : Nat) (K : Ents) (AK AU : Option Addr) (cK cU : Nat), vk = .slice AK kq cK ∧ vu = .slice AU kq cU ∧ q ≤ n ∧ kq ≤ q ∧ i = .int .i64 (q : Int) ∧ Hid (OwnTp wr w.heap.size (.slice AK kq cK) K.T ∧ OwnV wr w.heap.size (.slice AU kq cU) K.U ∧ K.length = kq ∧ K = tickE (E.take q) now ∧ Below w.heap.size w wr)) (fun _ _ _ i _ => n - (intOf i).toNat)
  case atStart => exact ⟨0, 0, [], none, none, 0, 0, rfl, rfl, by omega, by omega, rfl, Lib.hid ⟨OwnTp.nil _ _, OwnV.nil _ _, rfl, rfl, Below.refl _ _⟩⟩
  case round =>
    obtain ⟨q, kq, K, AK, AU, cK, cU, rfl, rfl, hq, hkq, rfl, HW⟩ := hrel
    by_cases hlt : q < n
    · have g1 : decide ((q : Int) < (n : Int)) = true := by simp; omega
      have hq3 : (q : Int) < (n : Int) := by omega
      have hq4 : q < n := hlt
      have hqE : q < E.length := by rw [← HQ.out.2.2]; exact hlt
      obtain ⟨b1, o1, rfl, hb1, t0, t1, t2⟩ := HR.out.1.at (q := q) (by rw [E.T_len]; exact hqE)
      obtain ⟨b2, o2, rfl, hb2, u0⟩ := rx_at HR.out.2 (q := q) (by rw [E.U_len]; exact hqE)
      rw [show E.T[q]'(by rw [E.T_len]; exact hqE) = E[q].t by simp [Ents.T]] at t0 t1 t2
      rw [show E.U[q]'(by rw [E.U_len]; exact hqE) = E[q].u by simp [Ents.U]] at u0
      have hsuc := tick_succ (now := now) hqE
      have hin := HQ.out.2.1.ins E[q] (List.getElem_mem hqE)
      generalize E[q] = en at t0 t1 t2 u0 hsuc hin
      obtain ⟨⟨xo, xr, xv⟩, u⟩ := en
      replace t0 : w.cell? ⟨b1, o1 + q * 3, none⟩ = some (.int .u32 (xo : Int)) := t0
      replace t1 : w.cell? ⟨b1, o1 + q * 3 + 1, none⟩ = some (.int .u64 (xr : Int)) := t1
      replace t2 : w.cell? ⟨b1, o1 + q * 3 + 2, none⟩ = some (.int .i64 xv) := t2
      replace u0 : w.cell? ⟨b2, o2 + q, none⟩ = some (.int .i64 u) := u0
      replace hsuc : tickE (E.take (q + 1)) now = tickE (E.take q) now ++ (if now < u then [⟨⟨xo, xr, xv⟩, u⟩] else []) := hsuc
      replace hin : (⟨xo, xr, xv⟩ : Tup).In := hin.t
      have HT := Lib.hid (fun W (hI : Below w.heap.size w W) => (⟨(hI.cell (p := ⟨b1, o1 + q * 3, none⟩) hb1).trans t0, (hI.cell (p := ⟨b1, o1 + q * 3 + 1, none⟩) hb1).trans t1, (hI.cell (p := ⟨b1, o1 + q * 3 + 2, none⟩) hb1).trans t2⟩ : W.cell? ⟨b1, o1 + q * 3, none⟩ = _ ∧ W.cell? ⟨b1, o1 + q * 3 + 1, none⟩ = _ ∧ W.cell? ⟨b1, o1 + q * 3 + 2, none⟩ = _))
      have HU := Lib.hid (fun W (hI : Below w.heap.size w W) => (hI.cell (p := ⟨b2, o2 + q, none⟩) hb2).trans u0)
      have HS := Lib.hid hsuc
      have HIN := Lib.hid hin
      have hbw := HW.out.2.2.2.2
      have d3 := (hbw.cell (p := ⟨G, 3, none⟩) HC.out.1).trans HC.out.2.2
      have e0 := HU.out wr hbw
      clear t0 t1 t2 u0 hb1 hb2 hqE hsuc hin
      by_cases hnu : now < u
      · have s1 : decide (now < u) = true := decide_eq_true hnu
        have HS2 : Hid (tickE (E.take (q + 1)) now = K ++ [⟨⟨xo, xr, xv⟩, u⟩]) := Lib.hid (by rw [HS.out, if_pos hnu, HW.out.2.2.2.1])
        clear hnu HS
        go_upto_region 7 with (fail)
        clear d3 e0 s1
        refine wp_region_d (F := tkF w) (fun _ _ => True) (fun k j => (k == 9 && j == 8) || (k == 19 && j == 18)) (fun i => i == 9 || i == 19) (fun i W => if i = 9 then OwnTp W w.heap.size (.slice AK kq cK) K.T else OwnV W w.heap.size (.slice AU kq cU) K.U) 20
          [.val (.slice AK kq cK), .val (.pointer (some ⟨G, 0, none⟩)), .val (.pointer (some ⟨G, 0, none⟩)), .val (.pointer (some ⟨G, 2, none⟩)), .val (.slice (some ⟨b1, o1, none⟩) n c1), .val (.int .i64 (q : Int)), .val (.pointer (some ⟨b1, o1 + q * 3, none⟩)), .val (.agg #[.int .u32 (xo : Int), .int .u64 (xr : Int), .int .i64 xv]), tkT w xo xr xv, tkK w (K.T ++ [⟨xo, xr, xv⟩]), .val (.slice AU kq cU), .val (.pointer (some ⟨G, 0, none⟩)), .val (.pointer (some ⟨G, 0, none⟩)), .val (.pointer (some ⟨G, 3, none⟩)), .val (.slice (some ⟨b2, o2, none⟩) n c2), .val (.int .i64 (q : Int)), .val (.pointer (some ⟨b2, o2 + q, none⟩)), .val (.int .i64 u), tkV w u, tkU w (K.U ++ [u])]
          (fun _ _ _ _ => trivial) (by kernel_rfl) (by kernel_rfl) (by kernel_rfl) (by decide) (by kernel_rfl) (hbw.trans ((belowDrewN wr 1).mono hbw.size)) (fun i hi => by
            have hi2 : i = 9 ∨ i = 19 := by simpa using hi
            rcases hi2 with rfl | rfl
            · have hz : OwnTp wr.drew w.heap.size (.slice AK kq cK) K.T := HW.out.1.on (belowDrewN wr 1)
              exact hz
            · have hz : OwnV wr.drew w.heap.size (.slice AU kq cU) K.U := HW.out.2.1.on (belowDrewN wr 1)
              exact hz) (fun i a b hi _ hF _ hp => by
            have hi2 : i = 9 ∨ i = 19 := by simpa using hi
            rcases hi2 with rfl | rfl
            · have hp : OwnTp a w.heap.size (.slice AK kq cK) K.T := hp
              have hz : OwnTp b w.heap.size (.slice AK kq cK) K.T := hp.on hF
              exact hz
            · have hp : OwnV a w.heap.size (.slice AU kq cU) K.U := hp
              have hz : OwnV b w.heap.size (.slice AU kq cU) K.U := hp.on hF
              exact hz) (AllOblD.upto ⟨?_, ?_, ?_, ?_, ?_, ?_, ?_, ?_, ?_, ?_, ?_, ?_, ?_, ?_, ?_, ?_, ?_, ?_, ?_, ?_, trivial⟩) ?_ ?_
        · intro _
          exact OblD.move rfl _ (Or.inl rfl) (by kernel_rfl) rfl
        · intro _
          exact OblD.move rfl _ (Or.inl rfl) (by kernel_rfl) rfl
        · intro _
          refine OblD.pure rfl (.pointer (some ⟨G, 0, none⟩)) (by kernel_rfl) rfl fun ev W hI hx => ?_
          have e27 : ev (.tmp 27) = .pointer (some ⟨G, 0, none⟩) := holds_valF (hx (.tmp 27)) (by kernel_rfl)
          simp [execOp, e27, go_sem]
        · intro _
          refine OblD.pure rfl (.pointer (some ⟨G, 2, none⟩)) (by kernel_rfl) rfl fun ev W hI hx => ?_
          have e28 : ev (.tmp 28) = .pointer (some ⟨G, 0, none⟩) := holds_valF (hx (.tmp 28)) (by kernel_rfl)
          simp [execOp, e28, go_sem]
        · intro _
          refine OblD.pure rfl (.slice (some ⟨b1, o1, none⟩) n c1) (by kernel_rfl) rfl fun ev W hI hx => ?_
          have e29 : ev (.tmp 29) = .pointer (some ⟨G, 2, none⟩) := holds_valF (hx (.tmp 29)) (by kernel_rfl)
          have hI : Below w.heap.size w W := hI
          have d0 := (hI.cell (p := ⟨G, 2, none⟩) HC.out.1).trans HC.out.2.1
          simp [execOp, e29, go_sem, d0]
        · intro _
          exact OblD.move rfl _ (Or.inl rfl) (by kernel_rfl) rfl
        · intro _
          refine OblD.pure rfl (.pointer (some ⟨b1, o1 + q * 3, none⟩)) (by kernel_rfl) rfl fun ev W hI hx => ?_
          have e30 : ev (.tmp 30) = .slice (some ⟨b1, o1, none⟩) n c1 := holds_valF (hx (.tmp 30)) (by kernel_rfl)
          have e31 : ev (.tmp 31) = .int .i64 (q : Int) := holds_valF (hx (.tmp 31)) (by kernel_rfl)
          simp [execOp, e30, e31, go_sem, hq3, hq4]
        · intro _
          refine OblD.pure rfl (.agg #[.int .u32 (xo : Int), .int .u64 (xr : Int), .int .i64 xv]) (by kernel_rfl) rfl fun ev W hI hx => ?_
          have e32 : ev (.tmp 32) = .pointer (some ⟨b1, o1 + q * 3, none⟩) := holds_valF (hx (.tmp 32)) (by kernel_rfl)
          have hI : Below w.heap.size w W := hI
          obtain ⟨d0, d1, d2⟩ := HT.out W hI
          simp [execOp, e32, go_sem, d0, d1, d2]
        · intro _
          refine OblD.step rfl fun ev W hI hx => ?_
          have e33 : ev (.tmp 33) = .agg #[.int .u32 (xo : Int), .int .u64 (xr : Int), .int .i64 xv] := holds_valF (hx (.tmp 33)) (by kernel_rfl)
          have hI : Below w.heap.size w W := hI
          have hbW := belowA W (.cells #[.int .u32 (xo : Int), .int .u64 (xr : Int), .int .i64 xv] 31)
          refine ⟨.slice (some ⟨W.heap.size, 0, none⟩) 1 1, W.alloc (.cells #[.int .u32 (xo : Int), .int .u64 (xr : Int), .int .i64 xv] 31), ?_, hI.trans (hbW.mono hI.size), hbW, ⟨W.heap.size, rfl, Blk.new _ _ _⟩⟩
          simp [execOp, e33, go_sem]
        · exact fun hh => absurd hh (by decide)
        · intro _
          exact OblD.move rfl _ (Or.inl rfl) (by kernel_rfl) rfl
        · intro _
          exact OblD.move rfl _ (Or.inl rfl) (by kernel_rfl) rfl
        · intro _
          refine OblD.pure rfl (.pointer (some ⟨G, 0, none⟩)) (by kernel_rfl) rfl fun ev W hI hx => ?_
          have e37 : ev (.tmp 37) = .pointer (some ⟨G, 0, none⟩) := holds_valF (hx (.tmp 37)) (by kernel_rfl)
          simp [execOp, e37, go_sem]
        · intro _
          refine OblD.pure rfl (.pointer (some ⟨G, 3, none⟩)) (by kernel_rfl) rfl fun ev W hI hx => ?_
          have e38 : ev (.tmp 38) = .pointer (some ⟨G, 0, none⟩) := holds_valF (hx (.tmp 38)) (by kernel_rfl)
          simp [execOp, e38, go_sem]
        · intro _
          refine OblD.pure rfl (.slice (some ⟨b2, o2, none⟩) n c2) (by kernel_rfl) rfl fun ev W hI hx => ?_
          have e39 : ev (.tmp 39) = .pointer (some ⟨G, 3, none⟩) := holds_valF (hx (.tmp 39)) (by kernel_rfl)
          have hI : Below w.heap.size w W := hI
          have d0 := (hI.cell (p := ⟨G, 3, none⟩) HC.out.1).trans HC.out.2.2
          simp [execOp, e39, go_sem, d0]
        · intro _
          exact OblD.move rfl _ (Or.inl rfl) (by kernel_rfl) rfl
        · intro _
          refine OblD.pure rfl (.pointer (some ⟨b2, o2 + q, none⟩)) (by kernel_rfl) rfl fun ev W hI hx => ?_
          have e40 : ev (.tmp 40) = .slice (some ⟨b2, o2, none⟩) n c2 := holds_valF (hx (.tmp 40)) (by kernel_rfl)
          have e41 : ev (.tmp 41) = .int .i64 (q : Int) := holds_valF (hx (.tmp 41)) (by kernel_rfl)
          simp [execOp, e40, e41, go_sem, hq3, hq4]
        · intro _
          refine OblD.pure rfl (.int .i64 u) (by kernel_rfl) rfl fun ev W hI hx => ?_
          have e42 : ev (.tmp 42) = .pointer (some ⟨b2, o2 + q, none⟩) := holds_valF (hx (.tmp 42)) (by kernel_rfl)
          have hI : Below w.heap.size w W := hI
          have d0 := HU.out W hI
          simp [execOp, e42, go_sem, d0]
        · intro _
          refine OblD.step rfl fun ev W hI hx => ?_
          have e43 : ev (.tmp 43) = .int .i64 u := holds_valF (hx (.tmp 43)) (by kernel_rfl)
          have hI : Below w.heap.size w W := hI
          have hbW := belowA W (.cells #[.int .i64 u] 2)
          refine ⟨.slice (some ⟨W.heap.size, 0, none⟩) 1 1, W.alloc (.cells #[.int .i64 u] 2), ?_, hI.trans (hbW.mono hI.size), hbW, ⟨W.heap.size, rfl, Blk.new _ _ _⟩⟩
          simp [execOp, e43, go_sem]
        · exact fun hh => absurd hh (by decide)
        · intro i oo him hsp hoo
          have hi2 : i = 9 ∨ i = 19 := by simpa using hsp
          rcases hi2 with hi2 | hi2
          · subst hi2
            obtain rfl := (Option.some.inj hoo).symm
            refine OblDX.step rfl fun ev W hI hpre hx => ?_
            have hI : Below w.heap.size w W := hI
            have hpre : OwnTp W w.heap.size (.slice AK kq cK) K.T := hpre
            have e26 : ev (.tmp 26) = .slice AK kq cK := holds_valF (hx (.tmp 26)) (by kernel_rfl)
            obtain ⟨g, e34, hb⟩ := tkT_of (xo := xo) (xr := xr) (xv := xv) (hx (.tmp 34)) (by kernel_rfl)
            obtain ⟨v', W', hrun, ho', hg'⟩ := run_appendTp w.heap.size _ K.T hpre W.heap.size (some ⟨g, 0, none⟩) 1 1 [⟨xo, xr, xv⟩] (one_rt_b hb HIN.out) (by rw [K.T_len, HW.out.2.2.1]; omega) hI.size
            refine ⟨v', W', run_op_append (.tmp 26) (.tmp 34) 46 rfl rfl _ _ _ e26 e34 hrun, below_grown hI hI.size hg' (fun k hk => (World.ownsRow.lt hpre k hk).1), ?_, ?_, ho'⟩
            · intro j uu hj hd hdep hh
              by_cases hj9 : j < 20
              · have : j = 18 ∨ j = 19 ∨ j = 8 ∨ j = 0 ∨ j = 1 ∨ j = 2 ∨ j = 3 ∨ j = 4 ∨ j = 5 ∨ j = 6 ∨ j = 7 ∨ j = 10 ∨ j = 11 ∨ j = 12 ∨ j = 13 ∨ j = 14 ∨ j = 15 ∨ j = 16 ∨ j = 17 := by omega
                rcases this with rfl | rfl | rfl | rfl | rfl | rfl | rfl | rfl | rfl | rfl | rfl | rfl | rfl | rfl | rfl | rfl | rfl | rfl | rfl
                · obtain ⟨g, e, hb⟩ := tkV_of (u := u) hh rfl
                  exact ⟨g, e, (hg'.block g hb.lt (fun e => own_blk_ne hpre hb (by decide) e.symm)).trans hb⟩
                · have hh : OwnV W w.heap.size uu (K.U ++ [u]) := hh
                  have hz : OwnV W' w.heap.size uu (K.U ++ [u]) := own_grown hh hg' (fun k h1 h2 => own_ne hpre hh (by decide) h2 h1)
                  exact hz
                · exact absurd hd (by decide)
                all_goals exact hh
              · rw [tbl_outF (n := 20) rfl (by omega)]
                trivial
            · intro j hj hsj hdn hpj
              have hj2 : j = 19 := by
                have : j = 9 ∨ j = 19 := by simpa using hsj
                omega
              subst hj2
              have hpj : OwnV W w.heap.size (.slice AU kq cU) K.U := hpj
              have hz : OwnV W' w.heap.size (.slice AU kq cU) K.U := own_grown hpj hg' (fun k h1 h2 => own_ne hpre hpj (by decide) h2 h1)
              exact hz
          · subst hi2
            obtain rfl := (Option.some.inj hoo).symm
            refine OblDX.step rfl fun ev W hI hpre hx => ?_
            have hI : Below w.heap.size w W := hI
            have hpre : OwnV W w.heap.size (.slice AU kq cU) K.U := hpre
            have e36 : ev (.tmp 36) = .slice AU kq cU := holds_valF (hx (.tmp 36)) (by kernel_rfl)
            obtain ⟨g, e44, hb⟩ := tkV_of (u := u) (hx (.tmp 44)) (by kernel_rfl)
            obtain ⟨v', W', hrun, ho', hg', _⟩ := run_appendV w.heap.size _ K.U hpre W.heap.size (some ⟨g, 0, none⟩) 1 1 [u] (one_rx_b hb) (by rw [K.U_len, HW.out.2.2.1]; omega) hI.size
            refine ⟨v', W', run_op_append (.tmp 36) (.tmp 44) 54 rfl rfl _ _ _ e36 e44 hrun, below_grown hI hI.size hg' (fun k hk => (World.ownsRow.lt hpre k hk).1), ?_, ?_, ho'⟩
            · intro j uu hj hd hdep hh
              by_cases hj9 : j < 20
              · have : j = 8 ∨ j = 9 ∨ j = 18 ∨ j = 0 ∨ j = 1 ∨ j = 2 ∨ j = 3 ∨ j = 4 ∨ j = 5 ∨ j = 6 ∨ j = 7 ∨ j = 10 ∨ j = 11 ∨ j = 12 ∨ j = 13 ∨ j = 14 ∨ j = 15 ∨ j = 16 ∨ j = 17 := by omega
                rcases this with rfl | rfl | rfl | rfl | rfl | rfl | rfl | rfl | rfl | rfl | rfl | rfl | rfl | rfl | rfl | rfl | rfl | rfl | rfl
                · obtain ⟨g, e, hb⟩ := tkT_of (xo := xo) (xr := xr) (xv := xv) hh rfl
                  exact ⟨g, e, (hg'.block g hb.lt (fun e => own_blk_ne hpre hb (by decide) e.symm)).trans hb⟩
                · have hh : OwnTp W w.heap.size uu (K.T ++ [⟨xo, xr, xv⟩]) := hh
                  have hz : OwnTp W' w.heap.size uu (K.T ++ [⟨xo, xr, xv⟩]) := own_grown hh hg' (fun k h1 h2 => own_ne hpre hh (by decide) h2 h1)
                  exact hz
                · exact absurd hd (by decide)
                all_goals exact hh
              · rw [tbl_outF (n := 20) rfl (by omega)]
                trivial
            · intro j hj hsj hdn hpj
              have hj2 : j = 9 := by
                have : j = 9 ∨ j = 19 := by simpa using hsj
                omega
              subst hj2
              have hpj : OwnTp W w.heap.size (.slice AK kq cK) K.T := hpj
              have hz : OwnTp W' w.heap.size (.slice AK kq cK) K.T := own_grown hpj hg' (fun k h1 h2 => own_ne hpre hpj (by decide) h2 h1)
              exact hz
        intro aa W hI hsz hdf hold hv _
        have hI : Below w.heap.size w W := hI
        have o35 : OwnTp W w.heap.size (aa.tmps.getD 35 undef) (K.T ++ [⟨xo, xr, xv⟩]) := tkK_of (hv 9 (by decide) (by intro k; simp)) (by kernel_rfl)
        have o45 : OwnV W w.heap.size (aa.tmps.getD 45 undef) (K.U ++ [u]) := tkU_of (hv 19 (by decide) (by intro k; simp)) (by kernel_rfl)
        have ha := act_puts [26, 27, 28, 29, 30, 31, 32, 33, 34, 35, 36, 37, 38, 39, 40, 41, 42, 43, 44, 45, 5, 6] (by kernel_rfl) hsz hdf hold
        simp only [putAll] at ha
        generalize aa.tmps.getD 35 undef = y35 at ha o35
        generalize aa.tmps.getD 45 undef = y45 at ha o45
        generalize aa.tmps.getD 26 undef = x26 at ha
        generalize aa.tmps.getD 27 undef = x27 at ha
        generalize aa.tmps.getD 28 undef = x28 at ha
        generalize aa.tmps.getD 29 undef = x29 at ha
        generalize aa.tmps.getD 30 undef = x30 at ha
        generalize aa.tmps.getD 31 undef = x31 at ha
        generalize aa.tmps.getD 32 undef = x32 at ha
        generalize aa.tmps.getD 33 undef = x33 at ha
        generalize aa.tmps.getD 34 undef = x34 at ha
        generalize aa.tmps.getD 36 undef = x36 at ha
        generalize aa.tmps.getD 37 undef = x37 at ha
        generalize aa.tmps.getD 38 undef = x38 at ha
        generalize aa.tmps.getD 39 undef = x39 at ha
        generalize aa.tmps.getD 40 undef = x40 at ha
        generalize aa.tmps.getD 41 undef = x41 at ha
        generalize aa.tmps.getD 42 undef = x42 at ha
        generalize aa.tmps.getD 43 undef = x43 at ha
        generalize aa.tmps.getD 44 undef = x44 at ha
        generalize aa.tmps.getD 5 undef = x5 at ha
        generalize aa.tmps.getD 6 undef = x6 at ha
        clear hv hold hsz hdf
        subst ha
        simp only [List.toList_toArray, List.drop_succ_cons, List.drop_zero, Act.put, List.setIfInBounds_toArray, List.set_cons_succ, List.set_cons_zero]
        obtain ⟨A35, c35, e35, _⟩ : ∃ A c, y35 = .slice A (kq + 1) c ∧ True := by
          obtain ⟨A, c, e, _⟩ := own_rx (cellsT_len _) o35
          refine ⟨A, c, ?_, trivial⟩
          rw [e, List.length_append, K.T_len, HW.out.2.2.1]
          rfl
        obtain ⟨A45, c45, e45, _⟩ : ∃ A c, y45 = .slice A (kq + 1) c ∧ True := by
          obtain ⟨A, c, e, _⟩ := o45.rx
          refine ⟨A, c, ?_, trivial⟩
          rw [e, List.length_append, K.U_len, HW.out.2.2.1]
          rfl
        subst e35 e45
        have HN : Hid (OwnTp W w.heap.size (.slice A35 (kq + 1) c35) (K ++ [⟨⟨xo, xr, xv⟩, u⟩] : Ents).T ∧ OwnV W w.heap.size (.slice A45 (kq + 1) c45) (K ++ [⟨⟨xo, xr, xv⟩, u⟩] : Ents).U ∧ (K ++ [⟨⟨xo, xr, xv⟩, u⟩] : Ents).length = kq + 1 ∧ (K ++ [⟨⟨xo, xr, xv⟩, u⟩] : Ents) = tickE (E.take (q + 1)) now ∧ Below w.heap.size w W) := Lib.hid ⟨by
          have : (K ++ [⟨⟨xo, xr, xv⟩, u⟩] : Ents).T = K.T ++ [⟨xo, xr, xv⟩] := by simp [Ents.T]
          rw [this]; exact o35, by
          have : (K ++ [⟨⟨xo, xr, xv⟩, u⟩] : Ents).U = K.U ++ [u] := by simp [Ents.U]
          rw [this]; exact o45, by rw [List.length_append, HW.out.2.2.1]; rfl, HS2.out.symm, hI⟩
        clear o35 o45 hI HW hbw
        obtain ⟨k3q, hk3q⟩ : ∃ k, k = kq + 1 := ⟨_, rfl⟩
        rw [← hk3q] at HN ⊢
        have HKQ := Lib.hid (show k3q ≤ q + 1 by omega)
        clear hk3q
        go_wp2_with fail
        go_roundw
        case rel => exact ⟨q + 1, k3q, K ++ [⟨⟨xo, xr, xv⟩, u⟩], A35, A45, c35, c45, rfl, rfl, by omega, HKQ.out, by go_num, HN⟩
        case measure => simp [intOf]; omega
      · have s1 : decide (now < u) = false := decide_eq_false hnu
        have HN : Hid (OwnTp wr w.heap.size (.slice AK kq cK) K.T ∧ OwnV wr w.heap.size (.slice AU kq cU) K.U ∧ K.length = kq ∧ K = tickE (E.take (q + 1)) now ∧ Below w.heap.size w wr) := Lib.hid ⟨HW.out.1, HW.out.2.1, HW.out.2.2.1, by rw [HS.out, if_neg hnu, List.append_nil, ← HW.out.2.2.2.1], HW.out.2.2.2.2⟩
        clear HW HS hbw hnu
        go_wp2_with fail
        go_roundw
        case rel => exact ⟨q + 1, kq, K, AK, AU, cK, cU, rfl, rfl, by omega, by omega, by go_num, HN⟩
        case measure => simp [intOf]; omega
    · have g1 : decide ((q : Int) < (n : Int)) = false := by simp; omega
      have hqn : q = n := by omega
      have HK : Hid (K = tickE E now) := Lib.hid (by rw [HW.out.2.2.2.1, hqn, HQ.out.2.2, List.take_length])
      have hkn : kq ≤ n := by omega
      have hlen : Hid ((tickE E now).length = kq) := Lib.hid (by rw [← HK.out]; exact HW.out.2.2.1)
      have y1 : IntKind.i64.wrap ((n : Int) - (kq : Int)) = ((n - kq : Nat) : Int) := by rw [IntKind.wrap_i64]; omega
      obtain ⟨df, hdf⟩ : ∃ df, df = n - kq := ⟨_, rfl⟩
      rw [← hdf] at y1
      have HDF := Lib.hid hdf
      have hbw := HW.out.2.2.2.2
      have d2 := (hbw.cell (p := ⟨G, 2, none⟩) HC.out.1).trans HC.out.2.1
      have d3 := (hbw.cell (p := ⟨G, 3, none⟩) HC.out.1).trans HC.out.2.2
      have hB := (hbw.block G HC.out.1).trans HQ.out.1.blk
      have f2 := Blk.frozen hB 2
      have f3 := Blk.frozen hB 3
      have HP : Hid (RlOut G c rb (tickE E now) (.slice A1 n c1) (.slice A2 n c2) (.int .i64 (df : Int)) w (.returned (.int .i64 (df : Int))) ((wr.setCell ⟨G, 2, none⟩ (.slice AK kq cK)).setCell ⟨G, 3, none⟩ (.slice AU kq cU))) := Lib.hid (by
        have h1 := HW.out.1
        have h2 := HW.out.2.1
        rw [HK.out] at h1 h2
        have oG := (OnlyS.one (S := fun k => k = G) (Only.set G 2 wr (.slice AK kq cK)) rfl).trans (OnlyS.one (S := fun k => k = G) (Only.set G 3 (wr.setCell ⟨G, 2, none⟩ (.slice AK kq cK)) (.slice AU kq cU)) rfl) (fun i hi _ => hi)
        have hGl := HC.out.1
        refine ⟨rfl, _, _, ⟨?_, own_onlyS (ownTp_less h1 (Nat.zero_le _)) oG (fun k hk (e : k = G) => by have := (World.ownsRow.lt h1 k hk).1; omega), own_onlyS (own_less h2 (Nat.zero_le _)) oG (fun k hk (e : k = G) => by have := (World.ownsRow.lt h2 k hk).1; omega)⟩, fun k hk => ?_, ((OnlyS.of (S := RlS G (.slice A1 n c1) (.slice A2 n c2)) hbw).trans oG (fun i (hi : i = G) _ => .inl hi))⟩
        · have := (Blk.set_ hB 2 (.slice AK kq cK)).set_ 3 (.slice AU kq cU)
          simpa only [List.setIfInBounds_toArray, List.set_cons_succ, List.set_cons_zero] using this
        · rcases hk with hk | hk | hk
          · exact .inl (.inl hk)
          · exact .inr (World.ownsRow.lt h1 k hk).1
          · exact .inr (World.ownsRow.lt h2 k hk).1)
      clear hdf hB hbw HW
      go_wp2_with fail
      go_ret
      rw [hlen.out, ← HDF.out]
      exact HP.out
end Go.Proofs.Ytfijlgkgbbemnaa
