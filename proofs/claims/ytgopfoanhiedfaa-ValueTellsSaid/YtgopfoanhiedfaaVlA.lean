/- Values of any type: what an assertion tells of a value; Clone, Count, Int, Must. -/
import Derived.Test.YtgopfoanhiedfaaRidB
import Derived.Test.YtgopfoanhiedfaaShelf
import Derived.Test.YtgopfoanhiedfaaRx
import Derived.Stop.Asserts
import Derived.Recover
import Derived.WalkSpells
namespace Go.Proofs.Ytgopfoanhiedfaa
open Go.RowKit
set_option linter.unusedVariables false
set_option linter.unusedSimpArgs false
set_option maxRecDepth 20000

theorem count_any (s : ByteArray) (w : World) (hs : s.size ≤ 4611686018427387904) : Calls Try.prog 25 #[.string s] w (Ans (.int .i64 (cnt s : Int)) w) := by
  have hc := cnt_le s
  go_enter Try.func25, Try.ntmps25
  go_wp2
  go_loopw [3] (fun v wr => ∃ k pos : Nat, v = .int .i64 k ∧ At s k pos ∧ wr = w.iter s pos) (fun _ wr => s.size - wr.iterPos w.heap.size)
  case atStart => exact ⟨0, 0, rfl, At.zero s, rfl⟩
  case round =>
    obtain ⟨k, pos, rfl, hat, rfl⟩ := hrel
    by_cases hp : pos < s.size
    · have hnx : ∀ ty, (Instr.next (.pointer (some ⟨w.heap.size, 0, none⟩)) true ty).run Try.prog (w.iter s pos) = _ := fun ty => run_next_any w s pos ty hp
      have hlt := hat.lt hp
      have hwd := hat.wide hp
      have hmo := hat.more hp
      go_wp2
      go_roundw
      case rel => exact ⟨k + 1, _, by go_num, hmo, rfl⟩
      case measure =>
        simp only [World.iterPos_iter]
        omega
    · have hnx : ∀ ty, (Instr.next (.pointer (some ⟨w.heap.size, 0, none⟩)) true ty).run Try.prog (w.iter s pos) = _ := fun ty => run_next_end w s pos ty hp
      have hk := hat.done hp
      subst hk
      go_wp2
      go_ret
      exact ⟨rfl, iter_below w s pos⟩
theorem clone_any (s : ByteArray) (w : World) (hs : s.size ≤ 281474976710656) : Calls Try.prog 21 #[.string s] w (Ans (.string s) w) := by
  go_enter Try.func21, Try.ntmps21
  go_wp2_with (go_at_call 27; refine (Try.stringslite_Clone _ _ hs).mono ?_; rintro e w' ⟨rfl, hb⟩)
  go_ret
  exact ⟨rfl, hb⟩

/-! ### Assertions -/
/-- Asked whether it is a T, the value v answers r and ok, in any world. -/
def AsT (v : Value) (T : TypeId) (r : Value) (ok : Bool) : Prop := ∀ W, (Instr.typeAssert v 20 T true).run Try.prog W = .ok (.tuple #[r, .bool ok]) W
def zV : TypeId → Value
  | 3 => .int .i64 0
  | 2 => .int .i64 0
  | 25 => .int .u32 0
  | 21 => .int .i32 0
  | 9 => .string ⟨#[]⟩
  | 4 => .bool false
  | 45 => .slice none 0 0
  | 29 => .slice none 0 0
  | 28 => .agg #[.string ⟨#[]⟩, .int .u32 0, .int .i64 0]
  | _ => .nilIface
theorem as_yes_int (v : Value) : AsT (.iface 3 v) 3 v true := fun W => by kernel_rfl
theorem as_yes_i64 (v : Value) : AsT (.iface 2 v) 2 v true := fun W => by kernel_rfl
theorem as_yes_u32 (v : Value) : AsT (.iface 25 v) 25 v true := fun W => by kernel_rfl
theorem as_yes_i32 (v : Value) : AsT (.iface 21 v) 21 v true := fun W => by kernel_rfl
theorem as_yes_str (v : Value) : AsT (.iface 9 v) 9 v true := fun W => by kernel_rfl
theorem as_yes_bool (v : Value) : AsT (.iface 4 v) 4 v true := fun W => by kernel_rfl
theorem as_yes_bytes (v : Value) : AsT (.iface 45 v) 45 v true := fun W => by kernel_rfl
theorem as_yes_lays (v : Value) : AsT (.iface 29 v) 29 v true := fun W => by kernel_rfl
theorem as_yes_lay (v : Value) : AsT (.iface 28 v) 28 v true := fun W => by kernel_rfl
/-- The types of one program that a value is asked for. -/
def askedT : List TypeId := [3, 2, 25, 21, 9, 4, 45, 29, 28]
theorem zero_as (W : World) : ∀ T ∈ askedT, (do pure (Value.tuple #[← zeroValue T, .bool false]) : Sem Value).run Try.prog W = .ok (.tuple #[zV T, .bool false]) W := by
  intro T hT
  simp only [askedT, List.mem_cons, List.not_mem_nil, or_false] at hT
  rcases hT with rfl | rfl | rfl | rfl | rfl | rfl | rfl | rfl | rfl <;> kernel_rfl
theorem as_no (u : TypeId) (v : Value) (T : TypeId) (hT : T ∈ askedT) (h : u ≠ T) : AsT (.iface u v) T (zV T) false := by
  intro W
  have e : (Instr.typeAssert (.iface u v) 20 T true).run Try.prog W = (if u = T then (pure (Value.tuple #[v, .bool true]) : Sem Value) else (do pure (Value.tuple #[← zeroValue T, .bool false]))).run Try.prog W := by
    simp only [askedT, List.mem_cons, List.not_mem_nil, or_false] at hT
    rcases hT with rfl | rfl | rfl | rfl | rfl | rfl | rfl | rfl | rfl <;> kernel_rfl
  rw [e, if_neg h]
  exact zero_as W T hT
theorem as_nil (T : TypeId) (hT : T ∈ askedT) : AsT .nilIface T (zV T) false := by
  intro W
  simp only [askedT, List.mem_cons, List.not_mem_nil, or_false] at hT
  rcases hT with rfl | rfl | rfl | rfl | rfl | rfl | rfl | rfl | rfl <;> kernel_rfl

/-! ### Int -/
/-- A value that is none of the types that are numbers. -/
structure NoInt (v : Value) : Prop where
  int : AsT v 3 (.int .i64 0) false
  i64 : AsT v 2 (.int .i64 0) false
  u32 : AsT v 25 (.int .u32 0) false
  i32 : AsT v 21 (.int .i32 0) false
  str : AsT v 9 (.string ⟨#[]⟩) false
  bool : AsT v 4 (.bool false) false
theorem NoInt.of (u : TypeId) (v : Value) (h : u ≠ 3 ∧ u ≠ 2 ∧ u ≠ 25 ∧ u ≠ 21 ∧ u ≠ 9 ∧ u ≠ 4) : NoInt (.iface u v) :=
  ⟨as_no u v _ (by simp [askedT]) h.1, as_no u v _ (by simp [askedT]) h.2.1, as_no u v _ (by simp [askedT]) h.2.2.1, as_no u v _ (by simp [askedT]) h.2.2.2.1, as_no u v _ (by simp [askedT]) h.2.2.2.2.1, as_no u v _ (by simp [askedT]) h.2.2.2.2.2⟩
theorem NoInt.nil : NoInt .nilIface :=
  ⟨as_nil _ (by simp [askedT]), as_nil _ (by simp [askedT]), as_nil _ (by simp [askedT]), as_nil _ (by simp [askedT]), as_nil _ (by simp [askedT]), as_nil _ (by simp [askedT])⟩
/-- Int answers n and ok of v, in any world. -/
def IntOut (v : Value) (n : Int) (ok : Bool) : Prop := ∀ w, Calls Try.prog 19 #[v] w (Ans (.tuple #[.int .i64 n, .bool ok]) w)
theorem int_no {v : Value} (h : NoInt v) : IntOut v 0 false := by
  intro w
  have h1 := h.int
  have h2 := h.i64
  have h3 := h.u32
  have h4 := h.i32
  have h5 := h.str
  have h6 := h.bool
  unfold AsT at h1 h2 h3 h4 h5 h6
  go_enter Try.func19, Try.ntmps19
  go_wp2
  go_ret2
  exact ⟨rfl, Below.refl _ _⟩
theorem int_int (n : Int) : IntOut (.iface 3 (.int .i64 n)) n true := by
  intro w
  have h1 := as_yes_int (.int .i64 n)
  unfold AsT at h1
  go_enter Try.func19, Try.ntmps19
  go_wp2
  go_ret2
  exact ⟨rfl, Below.refl _ _⟩
theorem int_i64 (n : Int) : IntOut (.iface 2 (.int .i64 n)) n true := by
  intro w
  have h1 : AsT (.iface 2 (.int .i64 n)) 3 (.int .i64 0) false := as_no _ _ _ (by simp [askedT]) (by decide)
  have h2 := as_yes_i64 (.int .i64 n)
  unfold AsT at h1 h2
  go_enter Try.func19, Try.ntmps19
  go_wp2
  go_ret2
  exact ⟨rfl, Below.refl _ _⟩
theorem int_u32 (n : Nat) (hn : n < 4294967296) : IntOut (.iface 25 (.int .u32 (n : Int))) (n : Int) true := by
  intro w
  have h1 : AsT (.iface 25 (.int .u32 (n : Int))) 3 (.int .i64 0) false := as_no _ _ _ (by simp [askedT]) (by decide)
  have h2 : AsT (.iface 25 (.int .u32 (n : Int))) 2 (.int .i64 0) false := as_no _ _ _ (by simp [askedT]) (by decide)
  have h3 := as_yes_u32 (.int .u32 (n : Int))
  unfold AsT at h1 h2 h3
  go_enter Try.func19, Try.ntmps19
  go_wp2
  go_ret2
  exact ⟨rfl, Below.refl _ _⟩
theorem int_i32 (n : Int) (h0 : -2147483648 ≤ n) (hn : n ≤ 2147483647) : IntOut (.iface 21 (.int .i32 n)) n true := by
  intro w
  have h1 : AsT (.iface 21 (.int .i32 n)) 3 (.int .i64 0) false := as_no _ _ _ (by simp [askedT]) (by decide)
  have h2 : AsT (.iface 21 (.int .i32 n)) 2 (.int .i64 0) false := as_no _ _ _ (by simp [askedT]) (by decide)
  have h3 : AsT (.iface 21 (.int .i32 n)) 25 (.int .u32 0) false := as_no _ _ _ (by simp [askedT]) (by decide)
  have h4 := as_yes_i32 (.int .i32 n)
  unfold AsT at h1 h2 h3 h4
  go_enter Try.func19, Try.ntmps19
  go_wp2
  go_ret2
  exact ⟨rfl, Below.refl _ _⟩
theorem int_str (s : ByteArray) (hs : s.size ≤ 4611686018427387904) : IntOut (.iface 9 (.string s)) (cnt s : Int) true := by
  intro w
  have h1 : AsT (.iface 9 (.string s)) 3 (.int .i64 0) false := as_no _ _ _ (by simp [askedT]) (by decide)
  have h2 : AsT (.iface 9 (.string s)) 2 (.int .i64 0) false := as_no _ _ _ (by simp [askedT]) (by decide)
  have h3 : AsT (.iface 9 (.string s)) 25 (.int .u32 0) false := as_no _ _ _ (by simp [askedT]) (by decide)
  have h4 : AsT (.iface 9 (.string s)) 21 (.int .i32 0) false := as_no _ _ _ (by simp [askedT]) (by decide)
  have h5 := as_yes_str (.string s)
  unfold AsT at h1 h2 h3 h4 h5
  go_enter Try.func19, Try.ntmps19
  go_wp2_with fail
  refine (count_any s _ hs).mono ?_
  rintro e w1 ⟨rfl, b1⟩
  go_wp2_with fail
  go_ret2
  exact ⟨rfl, b1⟩
theorem int_bool (b : Bool) : IntOut (.iface 4 (.bool b)) (if b then 1 else 0) true := by
  intro w
  have h1 : AsT (.iface 4 (.bool b)) 3 (.int .i64 0) false := as_no _ _ _ (by simp [askedT]) (by decide)
  have h2 : AsT (.iface 4 (.bool b)) 2 (.int .i64 0) false := as_no _ _ _ (by simp [askedT]) (by decide)
  have h3 : AsT (.iface 4 (.bool b)) 25 (.int .u32 0) false := as_no _ _ _ (by simp [askedT]) (by decide)
  have h4 : AsT (.iface 4 (.bool b)) 21 (.int .i32 0) false := as_no _ _ _ (by simp [askedT]) (by decide)
  have h5 : AsT (.iface 4 (.bool b)) 9 (.string ⟨#[]⟩) false := as_no _ _ _ (by simp [askedT]) (by decide)
  have h6 := as_yes_bool (.bool b)
  unfold AsT at h1 h2 h3 h4 h5 h6
  cases b
  all_goals
    go_enter Try.func19, Try.ntmps19
    go_wp2
    go_ret2
    exact ⟨rfl, Below.refl _ _⟩
/-! ### Must -/
theorem must_str (s : ByteArray) (hs : s.size ≤ 281474976710656) (w : World) : Calls Try.prog 15 #[.iface 9 (.string s)] w (Ans (.string s) w) := by
  have h1 : ∀ W, (Instr.typeAssert (.iface 9 (.string s)) 20 9 false).run Try.prog W = .ok (.string s) W := fun W => by kernel_rfl
  go_enter Try.func15, Try.ntmps15
  go_wp2_with fail
  refine (clone_any s _ hs).mono ?_
  rintro e w1 ⟨rfl, b1⟩
  go_wp2_with fail
  go_ret
  exact ⟨rfl, b1⟩
end Go.Proofs.Ytgopfoanhiedfaa
