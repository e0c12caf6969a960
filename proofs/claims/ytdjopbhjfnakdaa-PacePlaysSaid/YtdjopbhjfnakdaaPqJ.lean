/- The project's queue in memory; contracts: pace.New, Tick, Rate, Len, Cut, Bucket. -/
import Derived.Test.YtdjopbhjfnakdaaPqT
namespace Go.Proofs.Ytdjopbhjfnakdaa
open Go.RowKit
set_option linter.unusedVariables false
set_option linter.unusedSimpArgs false
set_option maxRecDepth 20000

/-- The project's queue: at G, its bucket at gb, its row at v. -/
structure PqSt (w : World) (G gb r u l : Nat) (Q : Row8) (cut : Nat) (v : Value) (ds : List Sl) : Prop where
  blk : Blk w G 55 #[.pointer (some ⟨gb, 0, none⟩), v, .int .i64 (cut : Int)]
  bkt : PkAt w gb r u l
  row : RowAt w v ds Q
  ne : G ≠ gb
  neG : v.ownBlock ≠ some G ∧ G ∉ bks ds
  neb : v.ownBlock ≠ some gb ∧ gb ∉ bks ds
/-- The blocks that it stands on. -/
def PqS (G gb : Nat) (v : Value) (ds : List Sl) (k : Nat) : Prop := k = G ∨ k = gb ∨ v.ownBlock = some k ∨ k ∈ bks ds
def PqAt (w : World) (G gb r u l : Nat) (Q : Row8) (cut : Nat) (S : Nat → Prop) : Prop := ∃ v ds, PqSt w G gb r u l Q cut v ds ∧ (∀ k, PqS G gb v ds k → S k) ∧ ∀ k, S k → k < w.heap.size
theorem PqAt.lt {w : World} {G gb r u l : Nat} {Q : Row8} {cut : Nat} {S : Nat → Prop} (h : PqAt w G gb r u l Q cut S) {k : Nat} (hk : S k) : k < w.heap.size := by
  obtain ⟨_, _, _, _, h⟩ := h
  exact h k hk
theorem PqSt.lt {w : World} {G gb r u l : Nat} {Q : Row8} {cut : Nat} {v : Value} {ds : List Sl} (h : PqSt w G gb r u l Q cut v ds) {k : Nat} (hk : PqS G gb v ds k) : k < w.heap.size := by
  rcases hk with rfl | rfl | hk | hk
  · exact h.blk.lt
  · exact h.bkt.lt
  · exact (h.row.own.lt hk).2
  · exact h.row.bk_lt hk
theorem PqSt.at {w : World} {G gb r u l : Nat} {Q : Row8} {cut : Nat} {v : Value} {ds : List Sl} (h : PqSt w G gb r u l Q cut v ds) : PqAt w G gb r u l Q cut (PqS G gb v ds) := ⟨v, ds, h, fun _ h => h, fun _ hk => h.lt hk⟩
theorem PkAt.onlyS {w w' : World} {T : Nat → Prop} {g r u l : Nat} (h : PkAt w g r u l) (ho : OnlyS T w w') (hs : ¬ T g) : PkAt w' g r u l := (ho.block g (Blk.lt h) hs).trans h
/-- Its bucket has turned, and blocks that it does not stand on. -/
theorem PqSt.turn {w w' : World} {G gb r u l r2 u2 l2 : Nat} {Q : Row8} {cut : Nat} {v : Value} {ds : List Sl} {T : Nat → Prop} (h : PqSt w G gb r u l Q cut v ds) (ho : OnlyS T w w') (hT : ∀ k, PqS G gb v ds k → k ≠ gb → ¬ T k) (hb : PkAt w' gb r2 u2 l2) : PqSt w' G gb r2 u2 l2 Q cut v ds :=
  ⟨h.blk.onlyS ho (hT G (.inl rfl) h.ne), hb, h.row.keep ho (fun k hk => hT k (.inr (.inr (.inl hk))) fun e => h.neb.1 (e ▸ hk)) (fun k hk => hT k (.inr (.inr (.inr hk))) fun e => h.neb.2 (e ▸ hk)), h.ne, h.neG, h.neb⟩
theorem PqSt.keep {w w' : World} {G gb r u l : Nat} {Q : Row8} {cut : Nat} {v : Value} {ds : List Sl} {T : Nat → Prop} (h : PqSt w G gb r u l Q cut v ds) (ho : OnlyS T w w') (hT : ∀ k, PqS G gb v ds k → ¬ T k) : PqSt w' G gb r u l Q cut v ds := h.turn ho (fun k hk _ => hT k hk) (h.bkt.onlyS ho (hT gb (.inr (.inl rfl))))
theorem PqSt.on {w w' : World} {G gb r u l : Nat} {Q : Row8} {cut : Nat} {v : Value} {ds : List Sl} (h : PqSt w G gb r u l Q cut v ds) (hb : Below w.heap.size w w') : PqSt w' G gb r u l Q cut v ds := h.keep (OnlyS.of (S := fun _ => False) hb) (fun _ _ h => h)
theorem PqAt.keep {w w' : World} {G gb r u l : Nat} {Q : Row8} {cut : Nat} {S T : Nat → Prop} (h : PqAt w G gb r u l Q cut S) (ho : OnlyS T w w') (hd : ∀ k, S k → ¬ T k) : PqAt w' G gb r u l Q cut S := by
  obtain ⟨v, ds, h, h1, h2⟩ := h
  exact ⟨v, ds, h.keep ho (fun k hk => hd k (h1 k hk)), h1, fun k hk => Nat.lt_of_lt_of_le (h2 k hk) ho.size⟩
theorem PqAt.bkt {w : World} {G gb r u l : Nat} {Q : Row8} {cut : Nat} {S : Nat → Prop} (h : PqAt w G gb r u l Q cut S) : PkAt w gb r u l := by
  obtain ⟨_, _, h, _⟩ := h
  exact h.bkt
/-- A row of rows of bytes, on the blocks F. -/
def RB (w : World) (A : Option Addr) (n c : Nat) (P : Row8) (F : Nat → Prop) : Prop :=
  P.length = n ∧ n ≤ c ∧ (∀ k, F k → k < w.heap.size) ∧ (0 < n → ∃ b off, A = some ⟨b, off, none⟩ ∧ F b ∧ ∀ i, i < n → ∃ Ai ni ci, w.cell? ⟨b, off + i, none⟩ = some (.slice Ai ni ci) ∧ R8 w w.heap.size Ai ni ci (P.getD i []) ∧ ∀ ad, Ai = some ad → 0 < ni → F ad.block)
/-- What a method leaves that turns its queue. -/
def PqOut (G gb r u l : Nat) (Q : Row8) (cut : Nat) (S : Nat → Prop) (v : Value) (w : World) (e : Ending) (w' : World) : Prop :=
  e = .returned v ∧ ∃ S', PqAt w' G gb r u l Q cut S' ∧ (∀ k, S' k → S k ∨ w.heap.size ≤ k) ∧ OnlyS S w w'
theorem PqSt.cells {w : World} {G gb r u l : Nat} {Q : Row8} {cut : Nat} {v : Value} {ds : List Sl} (h : PqSt w G gb r u l Q cut v ds) : (w.cell? ⟨G, 0, none⟩ = some (.pointer (some ⟨gb, 0, none⟩)) ∧ w.cell? ⟨G, 1, none⟩ = some v ∧ w.cell? ⟨G, 2, none⟩ = some (.int .i64 (cut : Int))) ∧ w.frozen? ⟨G, 1, none⟩ = false ∧ w.frozen? ⟨G, 2, none⟩ = false :=
  ⟨⟨h.blk.cell 0, h.blk.cell 1, h.blk.cell 2⟩, h.blk.frozen 1, h.blk.frozen 2⟩
/-- What a method leaves that turns its bucket alone. -/
theorem PqAt.bucket {w w' : World} {G gb r u l r2 u2 l2 : Nat} {Q : Row8} {cut : Nat} {S : Nat → Prop} (h : PqAt w G gb r u l Q cut S) (hb : PkAt w' gb r2 u2 l2) (ho : Only gb w w') : PqAt w' G gb r2 u2 l2 Q cut S ∧ OnlyS S w w' := by
  obtain ⟨v, ds, h, h1, h2⟩ := h
  exact ⟨⟨v, ds, h.turn (OnlyS.one (S := fun k => k = gb) ho rfl) (fun k _ hk => hk) hb, h1, fun k hk => Nat.lt_of_lt_of_le (h2 k hk) ho.size⟩, OnlyS.one ho (h1 _ (.inr (.inl rfl)))⟩
theorem pq_new (a b : Int) (ha : I64 a) (hb : I64 b) (w : World) : Calls Try.prog 8 #[.int .i64 a, .int .i64 b] w (fun e w' => ∃ G gb S, e = .returned (.pointer (some ⟨G, 0, none⟩)) ∧ PqAt w' G gb (heldN a) (heldN b) (heldN b * 1000000) [] 0 S ∧ (∀ k, S k → w.heap.size ≤ k) ∧ Below w.heap.size w w') := by
  have m1 := pk_new a b ha hb w
  go_enter Try.func8, Try.ntmps8
  go_wp2_with fail
  refine m1.mono ?_
  rintro e w1 ⟨gb, rfl, q0, hg', b0⟩
  have HB := Lib.hid (show Blk (w1.alloc (.cells #[.pointer (some ⟨gb, 0, none⟩), .slice none 0 0, .int .i64 0] 55)) w1.heap.size 55 #[.pointer (some ⟨gb, 0, none⟩), .slice none 0 0, .int .i64 0] from Blk.new _ _ _)
  have HK := Lib.hid (⟨q0.lt, q0, hg', b0, b0.size⟩ : _ ∧ _ ∧ _ ∧ _ ∧ _)
  clear m1 q0 hg' b0
  go_wp2_with fail
  go_ret
  obtain ⟨hl, q0, hg', b0, hs⟩ := HK.out
  have bA := belowA w1 (.cells #[.pointer (some ⟨gb, 0, none⟩), .slice none 0 0, .int .i64 0] 55)
  have hst : PqSt (w1.alloc (.cells #[.pointer (some ⟨gb, 0, none⟩), .slice none 0 0, .int .i64 0] 55)) w1.heap.size gb (heldN a) (heldN b) (heldN b * 1000000) [] 0 (.slice none 0 0) [] :=
    ⟨HB.out, q0.on bA, RowAt.nil _, by omega, ⟨by simp [Value.ownBlock], by simp [bks]⟩, ⟨by simp [Value.ownBlock], by simp [bks]⟩⟩
  refine ⟨w1.heap.size, gb, _, rfl, hst.at, fun k hk => ?_, b0.trans (bA.mono hs)⟩
  rcases hk with rfl | rfl | hk | hk
  · exact hs
  · exact hg'
  · simp [Value.ownBlock] at hk
  · simp [bks] at hk
section
variable {w : World} {G gb r u l : Nat} {Q : Row8} {cut : Nat} {S : Nat → Prop}
theorem pq_tick (h : PqAt w G gb r u l Q cut S) (ok : BkOk r u l) {us : Int} (hu : I64 us) : Calls Try.prog 14 #[.pointer (some ⟨G, 0, none⟩), .int .i64 us] w (PqOut G gb r u (tickN r u l us) Q cut S (.tuple #[]) w) := by
  have HQ := Lib.hid h
  have m1 := pk_tick gb r u l us w h.bkt ok hu
  obtain ⟨v, ds, hs, _⟩ := h
  obtain ⟨⟨k0, k1, k2⟩, _⟩ := hs.cells
  clear hs k1 k2
  generalize tickN r u l us = T at m1 ⊢
  go_enter Try.func14, Try.ntmps14
  go_wp2_with fail
  refine m1.mono ?_
  rintro e w1 ⟨rfl, hb, ho⟩
  have HP := Lib.hid (HQ.out.bucket hb ho)
  clear m1 hb ho
  go_wp2_with fail
  refine bodyPost_end (results_none Try.results14 _ _ _) rfl ?_
  exact ⟨rfl, S, HP.out.1, fun k hk => .inl hk, HP.out.2⟩
theorem pq_rate (h : PqAt w G gb r u l Q cut S) {n : Int} (hn : I64 n) : Calls Try.prog 21 #[.pointer (some ⟨G, 0, none⟩), .int .i64 n] w (PqOut G gb (heldN n) u l Q cut S (.tuple #[]) w) := by
  have HQ := Lib.hid h
  have m1 := pk_rate gb r u l n w h.bkt hn
  obtain ⟨v, ds, hs, _⟩ := h
  obtain ⟨⟨k0, k1, k2⟩, _⟩ := hs.cells
  clear hs k1 k2
  generalize heldN n = T at m1 ⊢
  go_enter Try.func21, Try.ntmps21
  go_wp2_with fail
  refine m1.mono ?_
  rintro e w1 ⟨rfl, hb, ho⟩
  have HP := Lib.hid (HQ.out.bucket hb ho)
  clear m1 hb ho
  go_wp2_with fail
  refine bodyPost_end (results_none Try.results21 _ _ _) rfl ?_
  exact ⟨rfl, S, HP.out.1, fun k hk => .inl hk, HP.out.2⟩
theorem pq_len (h : PqAt w G gb r u l Q cut S) : Calls Try.prog 15 #[.pointer (some ⟨G, 0, none⟩)] w (Dn (.int .i64 (Q.length : Int)) w) := by
  obtain ⟨v, ds, hs, _⟩ := h
  obtain ⟨⟨k0, k1, k2⟩, _⟩ := hs.cells
  obtain ⟨A, c, rfl, _⟩ := hs.row.own.val
  have hl := hs.row.len
  rw [← hl]
  obtain ⟨n, hn⟩ : ∃ n, n = ds.length := ⟨_, rfl⟩
  rw [← hn] at k1 ⊢
  clear hs k0 k2 hl hn
  go_enter Try.func15, Try.ntmps15
  go_wp2_with fail
  go_ret
  exact ⟨rfl, 0, rfl⟩
theorem pq_cut (h : PqAt w G gb r u l Q cut S) : Calls Try.prog 10 #[.pointer (some ⟨G, 0, none⟩)] w (Dn (.int .i64 (cut : Int)) w) := by
  obtain ⟨v, ds, hs, _⟩ := h
  obtain ⟨⟨k0, k1, k2⟩, _⟩ := hs.cells
  clear hs k0 k1
  go_enter Try.func10, Try.ntmps10
  go_wp2_with fail
  go_ret
  exact ⟨rfl, 0, rfl⟩
theorem pq_bucket (h : PqAt w G gb r u l Q cut S) : Calls Try.prog 17 #[.pointer (some ⟨G, 0, none⟩)] w (Dn (.pointer (some ⟨gb, 0, none⟩)) w) := by
  obtain ⟨v, ds, hs, _⟩ := h
  obtain ⟨⟨k0, k1, k2⟩, _⟩ := hs.cells
  clear hs k1 k2
  go_enter Try.func17, Try.ntmps17
  go_wp2_with fail
  go_ret
  exact ⟨rfl, 0, rfl⟩
end
end Go.Proofs.Ytdjopbhjfnakdaa
