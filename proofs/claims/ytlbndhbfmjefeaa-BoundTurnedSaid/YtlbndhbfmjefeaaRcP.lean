/- Reports: what they are, when they are right, their bytes. Plain mathematics. -/
import Derived.Test.YtlbndhbfmjefeaaOctP
import Derived.Test.YtlbndhbfmjefeaaTup
import Derived.Test.YtlbndhbfmjefeaaRatP
namespace Go.Proofs.Ytlbndhbfmjefeaa
set_option linter.unusedVariables false
set_option linter.unusedSimpArgs false

structure Rep where
  kind : Int
  src : Nat
  about : Nat
  tups : List Tup
  abouts : List Nat
  nums : List Int
  rate : Nat
  ty : Int
  count : Int
  body : List UInt8
def Tup.ok (t : Tup) : Bool := !(decide (t.over < 0) || (decide (511 < t.over) || decide (dnN t.rate 17 ≠ t.rate)))
def tupsOk (l : List Tup) : Bool := l.all Tup.ok && decide (l.length ≤ 6)
/-- Is a type and a count one of ours? -/
def oursTC (t c : Int) : Bool := (decide (t = 205) && (decide (c = 3) || decide (c = 4))) || (decide (t = 206) && (decide (c = 1) || (decide (c = 4) || decide (c = 15))))
/-- The fields that a kind has not. -/
def Rep.bare (r : Rep) : Bool :=
  !(decide (r.kind = 6) && decide (r.src ≠ 0)) && (!(decide (r.kind ≠ 3) && decide (r.about ≠ 0)) && (!(decide (r.kind ≠ 1) && (decide (r.kind ≠ 2) && decide (0 < r.tups.length))) &&
  (!(decide (r.kind ≠ 4) && (decide (r.kind ≠ 5) && decide (0 < r.abouts.length))) && (!(decide (r.kind ≠ 4) && decide (0 < r.nums.length)) && (!(decide (r.kind ≠ 5) && decide (r.rate ≠ 0)) &&
  (decide (r.kind = 6) || (decide (r.ty = 0) && (decide (r.count = 0) && decide (r.body.length = 0)))))))))
def Rep.fits (r : Rep) : Bool :=
  if r.kind = 1 ∨ r.kind = 2 then tupsOk r.tups
  else if r.kind = 4 then decide (r.abouts.length = r.nums.length) && (decide (1 ≤ r.abouts.length) && (decide (r.abouts.length ≤ 16) && r.nums.all fun n => decide (0 ≤ n) && decide (n ≤ 255)))
  else if r.kind = 5 then decide (r.abouts.length ≤ 16) && decide (dnN r.rate 18 = r.rate)
  else if r.kind = 6 then decide (192 ≤ r.ty) && (decide (r.ty ≤ 223) && (decide (0 ≤ r.count) && (decide (r.count ≤ 31) && (decide (r.body.length % 4 = 0) && (decide (r.body.length ≤ 262140) && !oursTC r.ty r.count)))))
  else true
def Rep.err (r : Rep) : Int := if r.kind < 1 ∨ 6 < r.kind then 12 else if r.fits = false then 1 else if r.bare = false then 12 else 0
def Tup.bytes (t : Tup) : List UInt8 := be t.owner 4 ++ be (pkE t.rate 17 * 67108864 + pkM t.rate 17 * 512 + t.over.toNat) 4
def Rep.tail (r : Rep) : List UInt8 :=
  if r.kind = 1 ∨ r.kind = 2 then be r.src 4 ++ (be 0 4 ++ r.tups.flatMap Tup.bytes)
  else if r.kind = 3 then be r.src 4 ++ be r.about 4
  else if r.kind = 4 then be r.src 4 ++ (be 0 4 ++ (r.abouts.zip r.nums).flatMap fun x => be x.1 4 ++ be (x.2.toNat * 16777216) 4)
  else if r.kind = 5 then be r.src 4 ++ (be 0 4 ++ ([82, 69, 77, 66] ++ (be (r.abouts.length * 16777216 + pkE r.rate 18 * 262144 + pkM r.rate 18) 4 ++ r.abouts.flatMap fun x => be x 4)))
  else r.body
def Rep.tc (r : Rep) : Int × Int :=
  if r.kind = 1 ∨ r.kind = 2 then (205, 2 + r.kind) else if r.kind = 3 then (206, 1) else if r.kind = 4 then (206, 4) else if r.kind = 5 then (206, 15) else (r.ty, r.count)
def Rep.one (r : Rep) : List UInt8 := [UInt8.ofNat (128 + r.tc.2.toNat), UInt8.ofNat r.tc.1.toNat] ++ (be (r.tail.length / 4) 2 ++ r.tail)
def onesB (l : List Rep) : List UInt8 := l.flatMap Rep.one
def repsErr (l : List Rep) : Int := if l.length = 0 then 1 else match l.find? (fun r => decide (r.err ≠ 0)) with
  | some r => r.err
  | none => if 1500 < (onesB l).length then 3 else 0
def repsB (l : List Rep) : List UInt8 := if repsErr l = 0 then onesB l else []
theorem flat_len {α : Type} (f : α → List UInt8) (k : Nat) (h : ∀ x, (f x).length = k) (l : List α) : (l.flatMap f).length = k * l.length := by
  induction l with
  | nil => simp
  | cons x t ih => rw [List.flatMap_cons, List.length_append, ih, h, List.length_cons, Nat.mul_add]; omega
theorem Tup.bytes_len (t : Tup) : t.bytes.length = 8 := by simp [Tup.bytes, be_len]
/-- What follows a report's head is a whole number of words. -/
theorem Rep.tail_words {r : Rep} (h : r.kind = 6 → r.body.length % 4 = 0) (hk : 1 ≤ r.kind ∧ r.kind ≤ 6) : r.tail.length % 4 = 0 := by
  have h1 := flat_len Tup.bytes 8 Tup.bytes_len r.tups
  have h2 := flat_len (fun x : Nat × Int => be x.1 4 ++ be (x.2.toNat * 16777216) 4) 8 (fun x => by simp [be_len]) (r.abouts.zip r.nums)
  have h3 := flat_len (fun x : Nat => be x 4) 4 (fun x => be_len 4 x) r.abouts
  unfold Rep.tail
  split
  · simp only [List.length_append, be_len, h1]; omega
  · split
    · simp only [List.length_append, be_len]
    · split
      · simp only [List.length_append, be_len, h2]; omega
      · split
        · simp only [List.length_append, be_len, h3, List.length_cons, List.length_nil]; omega
        · exact h (by omega)
theorem Rep.one_len (r : Rep) : r.one.length = 4 + r.tail.length := by
  unfold Rep.one
  simp only [List.length_append, be_len, List.length_cons, List.length_nil]
  omega
end Go.Proofs.Ytlbndhbfmjefeaa
