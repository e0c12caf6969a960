/- Packets in plain words: what a packet value reads as, what its bytes are. No program's function. -/
import Derived.Test.YtnchgmemajmkjaaBase
namespace Go.Proofs.Ytnchgmemajmkjaa
open Go.RowKit
set_option linter.unusedVariables false
set_option linter.unusedSimpArgs false
set_option maxRecDepth 20000

/-- The slice value '.slice A n c' reads as the words l, below block B. -/
def R32 (w : World) (B : Nat) (A : Option Addr) (n c : Nat) (l : List Nat) : Prop :=
  l.length = n ∧ n ≤ c ∧ (∀ x ∈ l, x < 4294967296) ∧ (0 < n → ∃ b off, A = some ⟨b, off, none⟩ ∧ b < B ∧ ∀ i, i < n → w.cell? ⟨b, off + i, none⟩ = some (.int .u32 ((l.getD i 0 : Nat) : Int)))
section
variable {w w' : World} {B B' n c : Nat} {A : Option Addr} {l : List Nat}
theorem R32.len (h : R32 w B A n c l) : l.length = n := h.1
theorem R32.keep (h : R32 w B A n c l) (hk : ∀ p : Addr, p.block < B → w'.cell? p = w.cell? p) : R32 w' B A n c l :=
  ⟨h.1, h.2.1, h.2.2.1, fun hn => by
    obtain ⟨b, off, e, hb, hc⟩ := h.2.2.2 hn
    exact ⟨b, off, e, hb, fun i hi => (hk _ hb).trans (hc i hi)⟩⟩
theorem R32.more (h : R32 w B A n c l) (hB : B ≤ B') : R32 w B' A n c l :=
  ⟨h.1, h.2.1, h.2.2.1, fun hn => by
    obtain ⟨b, off, e, hb, hc⟩ := h.2.2.2 hn
    exact ⟨b, off, e, by omega, hc⟩⟩
theorem R32.below (h : R32 w B A n c l) (hb : Below B w w') : R32 w' B A n c l := h.keep fun _ hp => hb.cell hp
theorem R32.on (h : R32 w w.heap.size A n c l) (hb : Below w.heap.size w w') : R32 w' w'.heap.size A n c l := (h.below hb).more hb.size
theorem R32.nil (w : World) (B : Nat) (A : Option Addr) (c : Nat) : R32 w B A 0 c [] := ⟨rfl, Nat.zero_le _, by simp, fun h => absurd h (by omega)⟩
end

/-- A packet. -/
structure Pkt where
  m : Bool
  ty : Int
  seq : Nat
  time : Nat
  ssrc : Nat
  csrc : List Nat
  prof : Nat
  ext : List UInt8
  pay : List UInt8
/-- Its numbers are of their kinds. -/
structure Pkt.In (p : Pkt) : Prop where
  ty : I64 p.ty
  seq : p.seq < 65536
  time : p.time < 4294967296
  ssrc : p.ssrc < 4294967296
  prof : p.prof < 65536
  csrc : p.csrc.length ≤ 140737488355328
  ext : p.ext.length ≤ 140737488355328
  pay : p.pay.length ≤ 140737488355328
def Pkt.val (p : Pkt) (A1 : Option Addr) (c1 : Nat) (A2 : Option Addr) (c2 : Nat) (A3 : Option Addr) (c3 : Nat) : Value :=
  .agg #[.bool p.m, .int .i64 p.ty, .int .u16 (p.seq : Int), .int .u32 (p.time : Int), .int .u32 (p.ssrc : Int), .slice A1 p.csrc.length c1, .int .u16 (p.prof : Int), .slice A2 p.ext.length c2, .slice A3 p.pay.length c3]
/-- The value reads as the packet, below block B. -/
structure IsP (w : World) (B : Nat) (A1 : Option Addr) (c1 : Nat) (A2 : Option Addr) (c2 : Nat) (A3 : Option Addr) (c3 : Nat) (p : Pkt) : Prop where
  csrc : R32 w B A1 p.csrc.length c1 p.csrc
  ext : R8 w B A2 p.ext.length c2 p.ext
  pay : R8 w B A3 p.pay.length c3 p.pay
  kinds : p.In
theorem IsP.on {w w' : World} {A1 A2 A3 : Option Addr} {c1 c2 c3 : Nat} {p : Pkt} (h : IsP w w.heap.size A1 c1 A2 c2 A3 c3 p) (hb : Below w.heap.size w w') : IsP w' w'.heap.size A1 c1 A2 c2 A3 c3 p :=
  ⟨h.csrc.on hb, h.ext.on hb, h.pay.on hb, h.kinds⟩

/-- How many bytes a packet takes; may it be (0: it may); its bytes. -/
def Pkt.size (p : Pkt) : Nat := 12 + 4 * p.csrc.length + p.pay.length + if p.prof = 0 then 0 else 4 + p.ext.length
def Pkt.arg (p : Pkt) : Bool := decide (p.ty < 0) || (decide (127 < p.ty) || (decide (15 < p.csrc.length) || (decide (p.ext.length % 4 ≠ 0) || (decide (p.prof = 0) && decide (0 < p.ext.length)))))
def Pkt.right (p : Pkt) : Int := if p.arg = true then 1 else if 1500 < p.size then 3 else 0
def Pkt.bytes (p : Pkt) : List UInt8 :=
  UInt8.ofNat (128 + p.csrc.length + if p.prof = 0 then 0 else 16) :: UInt8.ofNat (p.ty.toNat + if p.m then 128 else 0) ::
    (be p.seq 2 ++ (be p.time 4 ++ (be p.ssrc 4 ++ (p.csrc.flatMap (fun x => be x 4) ++ ((if p.prof = 0 then [] else be p.prof 2 ++ (be (p.ext.length / 4) 2 ++ p.ext)) ++ p.pay)))))
end Go.Proofs.Ytnchgmemajmkjaa
