/- Packets in plain words: what a packet value reads as, what its bytes are. No program's function. A tape of numbers in memory, and what stays while it is read. No program's function. Contract: (*limelightkeep.Tape).Next. -/
import Derived.Test.YtgjncaobcgjefaaBase
import Derived.Test.YtgjncaobcgjefaaNc
import Derived.BigQuiet
import Derived.Deep.QuietTactic
namespace Go.Proofs.Ytgjncaobcgjefaa
open Go.RowKit
set_option linter.unusedVariables false
set_option linter.unusedSimpArgs false
set_option maxRecDepth 20000

/-- The slice value '.slice A n c' reads as the words l, below block B. -/
def R32 (w : World) (B : Nat) (A : Option Addr) (n c : Nat) (l : List Nat) : Prop :=
  l.length = n ∧ n ≤ c ∧ (∀ x ∈ l, x < 4294967296) ∧ (0 < n → ∃ b off, A = some ⟨b, off, none⟩ ∧ b < B ∧ ∀ i, i < n → w.cell? ⟨b, off + i, none⟩ = some (.int .u32 ((l.getD i 0 : Nat) : Int)))
section
variable {w w' : World} {B B' n c : Nat} {A : Option Addr} {l : List Nat}
theorem R32.len (h : R32 w B A n c l) : l.length = n := h.1
theorem R32.keep (h : R32 w B A n c l) (hk : ∀ p : Addr, p.block < B → w'.cell? p = w.cell? p) : R32 w' B A n c l :=
  ⟨h.1, h.2.1, h.2.2.1, fun hn => by
    obtain ⟨b, off, e, hb, hc⟩ := h.2.2.2 hn
    exact ⟨b, off, e, hb, fun i hi => (hk _ hb).trans (hc i hi)⟩⟩
theorem R32.more (h : R32 w B A n c l) (hB : B ≤ B') : R32 w B' A n c l :=
  ⟨h.1, h.2.1, h.2.2.1, fun hn => by
    obtain ⟨b, off, e, hb, hc⟩ := h.2.2.2 hn
    exact ⟨b, off, e, by omega, hc⟩⟩
theorem R32.below (h : R32 w B A n c l) (hb : Below B w w') : R32 w' B A n c l := h.keep fun _ hp => hb.cell hp
theorem R32.on (h : R32 w w.heap.size A n c l) (hb : Below w.heap.size w w') : R32 w' w'.heap.size A n c l := (h.below hb).more hb.size
theorem R32.nil (w : World) (B : Nat) (A : Option Addr) (c : Nat) : R32 w B A 0 c [] := ⟨rfl, Nat.zero_le _, by simp, fun h => absurd h (by omega)⟩
end

/-- A packet. -/
structure Pkt where
  m : Bool
  ty : Int
  seq : Nat
  time : Nat
  ssrc : Nat
  csrc : List Nat
  prof : Nat
  ext : List UInt8
  pay : List UInt8
/-- Its numbers are of their kinds. -/
structure Pkt.In (p : Pkt) : Prop where
  ty : I64 p.ty
  seq : p.seq < 65536
  time : p.time < 4294967296
  ssrc : p.ssrc < 4294967296
  prof : p.prof < 65536
  csrc : p.csrc.length ≤ 140737488355328
  ext : p.ext.length ≤ 140737488355328
  pay : p.pay.length ≤ 140737488355328
def Pkt.val (p : Pkt) (A1 : Option Addr) (c1 : Nat) (A2 : Option Addr) (c2 : Nat) (A3 : Option Addr) (c3 : Nat) : Value :=
  .agg #[.bool p.m, .int .i64 p.ty, .int .u16 (p.seq : Int), .int .u32 (p.time : Int), .int .u32 (p.ssrc : Int), .slice A1 p.csrc.length c1, .int .u16 (p.prof : Int), .slice A2 p.ext.length c2, .slice A3 p.pay.length c3]
/-- The value reads as the packet, below block B. -/
structure IsP (w : World) (B : Nat) (A1 : Option Addr) (c1 : Nat) (A2 : Option Addr) (c2 : Nat) (A3 : Option Addr) (c3 : Nat) (p : Pkt) : Prop where
  csrc : R32 w B A1 p.csrc.length c1 p.csrc
  ext : R8 w B A2 p.ext.length c2 p.ext
  pay : R8 w B A3 p.pay.length c3 p.pay
  kinds : p.In
theorem IsP.on {w w' : World} {A1 A2 A3 : Option Addr} {c1 c2 c3 : Nat} {p : Pkt} (h : IsP w w.heap.size A1 c1 A2 c2 A3 c3 p) (hb : Below w.heap.size w w') : IsP w' w'.heap.size A1 c1 A2 c2 A3 c3 p :=
  ⟨h.csrc.on hb, h.ext.on hb, h.pay.on hb, h.kinds⟩

/-- How many bytes a packet takes; may it be (0: it may); its bytes. -/
def Pkt.size (p : Pkt) : Nat := 12 + 4 * p.csrc.length + p.pay.length + if p.prof = 0 then 0 else 4 + p.ext.length
def Pkt.arg (p : Pkt) : Bool := decide (p.ty < 0) || (decide (127 < p.ty) || (decide (15 < p.csrc.length) || (decide (p.ext.length % 4 ≠ 0) || (decide (p.prof = 0) && decide (0 < p.ext.length)))))
def Pkt.right (p : Pkt) : Int := if p.arg = true then 1 else if 1500 < p.size then 3 else 0
def Pkt.bytes (p : Pkt) : List UInt8 :=
  UInt8.ofNat (128 + p.csrc.length + if p.prof = 0 then 0 else 16) :: UInt8.ofNat (p.ty.toNat + if p.m then 128 else 0) ::
    (be p.seq 2 ++ (be p.time 4 ++ (be p.ssrc 4 ++ (p.csrc.flatMap (fun x => be x 4) ++ ((if p.prof = 0 then [] else be p.prof 2 ++ (be (p.ext.length / 4) 2 ++ p.ext)) ++ p.pay)))))
end Go.Proofs.Ytgjncaobcgjefaa
namespace Go.Proofs.Ytgjncaobcgjefaa
open Go.RowKit
set_option linter.unusedVariables false
set_option linter.unusedSimpArgs false
set_option maxRecDepth 20000

theorem below_drewN (B : Nat) (w : World) (n : Nat) : Below B w (w.drewN n) := ⟨rfl, rfl, rfl, Nat.le_refl _, fun _ _ => rfl⟩
/-- A slice of ints, below block B (whatever they are). -/
def RI (w : World) (B : Nat) (A : Option Addr) (n c : Nat) : Prop :=
  n ≤ c ∧ (0 < n → ∃ b off, A = some ⟨b, off, none⟩ ∧ b < B ∧ ∀ i, i < n → ∃ x : Int, I64 x ∧ w.cell? ⟨b, off + i, none⟩ = some (.int .i64 x))
theorem RI.keep {w w' : World} {B n c : Nat} {A : Option Addr} (h : RI w B A n c) (hb : Below B w w') : RI w' B A n c :=
  ⟨h.1, fun hn => by
    obtain ⟨b, off, e, hlt, hc⟩ := h.2 hn
    refine ⟨b, off, e, hlt, fun i hi => ?_⟩
    obtain ⟨x, h1, h2⟩ := hc i hi
    exact ⟨x, h1, (hb.cell (p := ⟨b, off + i, none⟩) hlt).trans h2⟩⟩
/-- Block g holds a tape: its numbers below, so many of them read. -/
def TapeAt (w : World) (g : Nat) : Prop :=
  ∃ (A : Option Addr) (n c k : Nat), w.heap[g]? = some (.cells #[.slice A n c, .int .i64 (k : Int)] 28 (0, 0)) ∧ k ≤ n ∧ n ≤ 281474976710656 ∧ RI w g A n c
theorem TapeAt.lt {w : World} {g : Nat} (h : TapeAt w g) : g < w.heap.size := by
  obtain ⟨A, n, c, k, hg, _⟩ := h
  exact (Array.getElem?_eq_some_iff.1 hg).1
theorem TapeAt.keep {w w' : World} {g : Nat} (h : TapeAt w g) (hb : Below g w w') (hg' : w'.heap[g]? = w.heap[g]?) : TapeAt w' g := by
  obtain ⟨A, n, c, k, hg, h1, h2, h3⟩ := h
  exact ⟨A, n, c, k, hg'.trans hg, h1, h2, h3.keep hb⟩
theorem TapeAt.on {w w' : World} {g : Nat} (h : TapeAt w g) (hb : Below w.heap.size w w') : TapeAt w' g :=
  h.keep (hb.mono (Nat.le_of_lt h.lt)) (hb.block g h.lt)
/-- What stays while tape g is read: all but its own block; and it is a tape still. -/
structure Moves (g : Nat) (w w' : World) : Prop where
  below : Below g w w'
  other : ∀ k, k < w.heap.size → k ≠ g → w'.heap[k]? = w.heap[k]?
  tape : TapeAt w' g
theorem Moves.of {g : Nat} {w w' : World} (h : TapeAt w g) (hb : Below w.heap.size w w') : Moves g w w' :=
  ⟨hb.mono (Nat.le_of_lt h.lt), fun k hk _ => hb.block k hk, h.on hb⟩
theorem Moves.trans {g : Nat} {a b c : World} (h : Moves g a b) (k : Moves g b c) : Moves g a c :=
  ⟨h.below.trans k.below, fun i hi hne => (k.other i (by have := h.below.size; omega) hne).trans (h.other i hi hne), k.tape⟩
theorem Moves.and {g : Nat} {a b c : World} (h : Moves g a b) (hg : g < a.heap.size) (hb : Below a.heap.size b c) : Moves g a c :=
  ⟨h.below.trans (hb.mono (Nat.le_of_lt hg)), fun i hi hne => (hb.block i hi).trans (h.other i hi hne), h.tape.keep (hb.mono (Nat.le_of_lt hg)) (hb.block g hg)⟩
/-- No cell of a tape's block holds a byte or a word. -/
theorem TapeAt.no8 {w : World} {g : Nat} (h : TapeAt w g) {o : Nat} {x : Int} : w.cell? ⟨g, o, none⟩ ≠ some (.int .u8 x) := by
  obtain ⟨A, n, c, k, hg, _⟩ := h
  simp only [World.cell?, hg]
  match o with
  | 0 => simp
  | 1 => simp
  | o + 2 => simp
theorem TapeAt.no32 {w : World} {g : Nat} (h : TapeAt w g) {o : Nat} {x : Int} : w.cell? ⟨g, o, none⟩ ≠ some (.int .u32 x) := by
  obtain ⟨A, n, c, k, hg, _⟩ := h
  simp only [World.cell?, hg]
  match o with
  | 0 => simp
  | 1 => simp
  | o + 2 => simp
theorem R8.moves {w w' : World} {g n c : Nat} {A : Option Addr} {l : List UInt8} (h : R8 w w.heap.size A n c l) (hT : TapeAt w g) (hm : Moves g w w') : R8 w' w'.heap.size A n c l :=
  ⟨h.1, h.2.1, fun hn => by
    obtain ⟨b, off, e, hlt, hc⟩ := h.2.2 hn
    have hne : b ≠ g := fun e' => by
      subst e'
      exact hT.no8 (hc 0 hn)
    refine ⟨b, off, e, by have := hm.below.size; omega, fun i hi => ?_⟩
    rw [← hc i hi]
    exact World.cell?_of_block (hm.other b hlt hne)⟩
theorem R32.moves {w w' : World} {g n c : Nat} {A : Option Addr} {l : List Nat} (h : R32 w w.heap.size A n c l) (hT : TapeAt w g) (hm : Moves g w w') : R32 w' w'.heap.size A n c l :=
  ⟨h.1, h.2.1, h.2.2.1, fun hn => by
    obtain ⟨b, off, e, hlt, hc⟩ := h.2.2.2 hn
    have hne : b ≠ g := fun e' => by
      subst e'
      exact hT.no32 (hc 0 hn)
    refine ⟨b, off, e, by have := hm.below.size; omega, fun i hi => ?_⟩
    rw [← hc i hi]
    exact World.cell?_of_block (hm.other b hlt hne)⟩
/-- A row that a call owns, above the tape. -/
theorem own_moves {w w' : World} {g base size n : Nat} {e : TypeId} {v : Value} {xs : List Value} (h : w.ownsRow base e size v n xs) (hgb : g < base) (hm : Moves g w w') : w'.ownsRow base e size v n xs := by
  refine ⟨h.1, ?_⟩
  rcases h.2 with hn | ⟨b, cap, cur, hv, hb, hg, rest⟩
  · exact .inl hn
  · have hlt : b < w.heap.size := (Array.getElem?_eq_some_iff.1 hg).1
    exact .inr ⟨b, cap, cur, hv, hb, (hm.other b hlt (by omega)).trans hg, rest⟩
end Go.Proofs.Ytgjncaobcgjefaa
namespace Go.Proofs.Ytgjncaobcgjefaa
open Go.RowKit
set_option linter.unusedVariables false
set_option linter.unusedSimpArgs false
set_option maxRecDepth 20000

/-- A number of 0 to n - 1 (0 if there is none). -/
def NextOut (g : Nat) (n : Int) (w : World) (e : Ending) (w' : World) : Prop := ∃ r : Int, e = .returned (.int .i64 r) ∧ 0 ≤ r ∧ (r < n ∨ r = 0) ∧ Moves g w w'
theorem next_any (g : Nat) (n : Int) (w : World) (hT : TapeAt w g) (hn : I64 n) :
    Calls Try.prog 17 #[.pointer (some ⟨g, 0, none⟩), .int .i64 n] w (NextOut g n w) := by
  have hT' := hT
  obtain ⟨A, N, c, k, hg, hk, hN, hr⟩ := hT
  have c0 : w.cell? ⟨g, 0, none⟩ = some (.slice A N c) := by simp [World.cell?, hg]
  have c1 : w.cell? ⟨g, 1, none⟩ = some (.int .i64 (k : Int)) := by simp [World.cell?, hg]
  have f1 : w.frozen? ⟨g, 1, none⟩ = false := by simp [World.frozen?, hg]
  go_enter Try.func17, Try.ntmps17
  by_cases h1 : N ≤ k
  · have g1 : decide ((N : Int) ≤ (k : Int)) = true := by simp; omega
    go_wp2_with fail
    go_quiet (fail)
    go_wp2_with fail
    go_ret
    exact ⟨0, rfl, by omega, .inr rfl, Moves.of hT' (below_drewN _ w nq)⟩
  have g1 : decide ((N : Int) ≤ (k : Int)) = false := by simp; omega
  by_cases h2 : n < 1
  · have g2 : decide (n < 1) = true := by simp; omega
    go_wp2_with fail
    go_quiet (fail)
    go_wp2_with fail
    go_ret
    exact ⟨0, rfl, by omega, .inr rfl, Moves.of hT' (below_drewN _ w nq)⟩
  have g2 : decide (n < 1) = false := by simp; omega
  obtain ⟨b, off, rfl, hb, hc⟩ := hr.2 (by omega)
  obtain ⟨x, hx, hcx⟩ := hc k (by omega)
  clear hc
  obtain ⟨r, hr0, hr1, _, hwi⟩ := within_ex x 0 1073741824 hx (by omega) (by omega) (by omega)
  go_wp2_with fail
  go_quiet (fail)
  go_wp2_with fail
  have d0 : ((w.drewN nq).setCell ⟨g, 1, none⟩ (.int .i64 ((k : Int) + 1))).cell? ⟨g, 0, none⟩ = some (.slice (some ⟨b, off, none⟩) N c) := by
    rw [World.cell?_setCell_other _ _ _ _ (by simp)]
    exact c0
  have d1 : ((w.drewN nq).setCell ⟨g, 1, none⟩ (.int .i64 ((k : Int) + 1))).cell? ⟨g, 1, none⟩ = some (.int .i64 ((k : Int) + 1)) :=
    World.cell?_setCell_same _ _ _ (show (w.drewN nq).cell? ⟨g, 1, none⟩ = _ from c1)
  have d2 : ((w.drewN nq).setCell ⟨g, 1, none⟩ (.int .i64 ((k : Int) + 1))).cell? ⟨b, off + k, none⟩ = some (.int .i64 x) := by
    rw [World.cell?_setCell_other _ _ _ _ (by intro e; have := congrArg Addr.block e; simp at this; omega)]
    exact hcx
  have hm : Moves g w ((w.drewN nq).setCell ⟨g, 1, none⟩ (.int .i64 ((k : Int) + 1))) := by
    refine ⟨Below.setCell (below_drewN g w nq) (p := ⟨g, 1, none⟩) (Nat.le_refl _) _, fun j hj hne => Below.heap_setCell _ _ _ _ hne, ?_⟩
    refine ⟨some ⟨b, off, none⟩, N, c, k + 1, ?_, by omega, hN, hr.keep (Below.setCell (below_drewN g w nq) (p := ⟨g, 1, none⟩) (Nat.le_refl _) _)⟩
    exact Blk.set_ (w := w.drewN nq) (g := g) hg 1 (.int .i64 ((k : Int) + 1))
  revert d0 d1 d2 hm
  generalize (w.drewN nq).setCell ⟨g, 1, none⟩ (.int .i64 ((k : Int) + 1)) = W
  intro d0 d1 d2 hm
  clear c0 c1 f1 hcx hg hT'
  go_quiet ((go_at_call 11; refine Calls.quiet_of_same (hwi _)))
  go_wp2_with fail
  go_ret
  refine ⟨_, rfl, Int.emod_nonneg _ (by omega), .inl (Int.emod_lt_of_pos _ (by omega)), hm.trans (Moves.of hm.tape (below_drewN _ W _))⟩
end Go.Proofs.Ytgjncaobcgjefaa
