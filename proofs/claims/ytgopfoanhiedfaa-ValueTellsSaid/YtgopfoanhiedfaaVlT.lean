/- Values of any type: Text: strings, bytes, an error of the program's own, and what is none of them. -/
import Derived.Test.YtgopfoanhiedfaaVlA
namespace Go.Proofs.Ytgopfoanhiedfaa
open Go.RowKit
set_option linter.unusedVariables false
set_option linter.unusedSimpArgs false
set_option maxRecDepth 20000

theorem errno_arg (w : World) : Calls Try.prog 14 #[.int .i64 1] w (Ans (.string ⟨#[97, 110, 32, 97, 114, 103, 117, 109, 101, 110, 116, 32, 116, 104, 97, 116, 32, 109, 97, 121, 32, 110, 111, 116, 32, 98, 101]⟩) w) := by
  go_enter Try.func14, Try.ntmps14
  go_wp2
  go_ret
  exact ⟨rfl, Below.refl _ _⟩
theorem errno_full (w : World) : Calls Try.prog 14 #[.int .i64 24] w (Ans (.string ⟨#[110, 111, 32, 109, 111, 114, 101, 32, 114, 111, 111, 109]⟩) w) := by
  go_enter Try.func14, Try.ntmps14
  go_wp2
  go_ret
  exact ⟨rfl, Below.refl _ _⟩
/-- The deferred closure: nothing panics, so nothing is recovered. -/
theorem tell_idle (w : World) : CallsD Try.prog 30 #[] .returning w fun e u' w' => e = .returned (.tuple #[]) ∧ u' = .returning ∧ w' = w := by
  refine callsD_of_wpS Try.func30 rfl fun c₀ cs hu => ?_
  apply wpS_region
  simp [wpOpsS, go_sem, recoverD, hu, Try.ntmps30, bodyPostS, results, Try.results30]
  cases c₀
  simp_all
theorem tell_of (k : Int) (s : ByteArray) (hs : s.size ≤ 281474976710656) (he : ∀ w, Calls Try.prog 14 #[.int .i64 k] w (Ans (.string s) w)) (w : World) :
    Calls Try.prog 26 #[.iface 30 (.int .i64 k)] w (Ans (.tuple #[.string s, .bool true]) w) := by
  have hmf : ∀ (fn : Fn) (first cap : Array Value) (w : World), (Instr.makeFunc fn first cap).run Try.prog w = .ok (.func fn first cap) w := fun _ _ _ _ => rfl
  have hm : ∀ (d : Nat) (w : World), (method (d + 1) 30 (.int .i64 k) "Error").run Try.prog w = .ok (14, .int .i64 k) w := fun _ _ => by kernel_rfl
  go_enter_defers Try.func26, Try.ntmps26
  go_wp2_with fail
  refine (he _).mono ?_
  rintro e w1 ⟨rfl, b1⟩
  go_wp2_with fail
  refine (clone_any s _ hs).mono ?_
  rintro e w2 ⟨rfl, b2⟩
  go_wp2_with fail
  refine leaves_cons (f := 30) (args := #[]) (by simp) (by simp [go_sem]) ?_
  refine (tell_idle _).mono ?_
  rintro e u' w3 ⟨rfl, rfl, rfl⟩
  exact ⟨_, results_tmp2 rfl _ _ _, rfl, b1.trans (b2.mono b1.size)⟩
/-! ### Text -/
/-- Text answers s and ok of v, in any world. -/
def TextOut (v : Value) (s : ByteArray) (ok : Bool) : Prop := ∀ w, Calls Try.prog 20 #[v] w (Ans (.tuple #[.string s, .bool ok]) w)
/-- A value that is no text. -/
structure NoText (v : Value) : Prop where
  str : AsT v 9 (.string ⟨#[]⟩) false
  bytes : AsT v 45 (.slice none 0 0) false
  err : AsT v 65 .nilIface false
theorem text_no {v : Value} (h : NoText v) : TextOut v ⟨#[]⟩ false := by
  intro w
  have h1 := h.str
  have h2 := h.bytes
  have h3 := h.err
  unfold AsT at h1 h2 h3
  go_enter Try.func20, Try.ntmps20
  go_wp2
  go_ret2
  exact ⟨rfl, Below.refl _ _⟩
theorem NoText.nil : NoText .nilIface := ⟨as_nil _ (by simp [askedT]), as_nil _ (by simp [askedT]), fun _ => by kernel_rfl⟩
theorem NoText.of (u : TypeId) (v : Value) (h : u ≠ 9 ∧ u ≠ 45) (he : AsT (.iface u v) 65 .nilIface false) : NoText (.iface u v) :=
  ⟨as_no u v _ (by simp [askedT]) h.1, as_no u v _ (by simp [askedT]) h.2, he⟩
theorem noerr_f64 (v : Value) : AsT (.iface 40 v) 65 .nilIface false := fun W => run_typeAssert_lacksB Try.underlying65 (by kernel_rfl) (by kernel_rfl) v _ W
theorem noerr_i64 (v : Value) : AsT (.iface 2 v) 65 .nilIface false := fun W => run_typeAssert_lacksB Try.underlying65 (by kernel_rfl) (by kernel_rfl) v _ W
theorem noerr_i32 (v : Value) : AsT (.iface 21 v) 65 .nilIface false := fun W => run_typeAssert_lacksB Try.underlying65 (by kernel_rfl) (by kernel_rfl) v _ W
theorem noerr_u32 (v : Value) : AsT (.iface 25 v) 65 .nilIface false := fun W => run_typeAssert_lacksB Try.underlying65 (by kernel_rfl) (by kernel_rfl) v _ W
theorem noerr_bool (v : Value) : AsT (.iface 4 v) 65 .nilIface false := fun W => run_typeAssert_lacksB Try.underlying65 (by kernel_rfl) (by kernel_rfl) v _ W
theorem noerr_own (v : Value) : AsT (.iface 36 v) 65 .nilIface false := fun W => run_typeAssert_lacksB Try.underlying65 (by kernel_rfl) (by kernel_rfl) v _ W
theorem noerr_strs (v : Value) : AsT (.iface 22 v) 65 .nilIface false := fun W => run_typeAssert_lacksB Try.underlying65 (by kernel_rfl) (by kernel_rfl) v _ W
theorem text_str (s : ByteArray) (hs : s.size ≤ 281474976710656) : TextOut (.iface 9 (.string s)) s true := by
  intro w
  have h1 := as_yes_str (.string s)
  unfold AsT at h1
  go_enter Try.func20, Try.ntmps20
  go_wp2_with fail
  refine (clone_any s _ hs).mono ?_
  rintro e w1 ⟨rfl, b1⟩
  go_wp2_with fail
  go_ret2
  exact ⟨rfl, b1⟩
theorem text_bytes (A : Option Addr) (n c : Nat) (l : List UInt8) (w : World) (h : R8 w w.heap.size A n c l) : Calls Try.prog 20 #[.iface 45 (.slice A n c)] w (Ans (.tuple #[.string ⟨l.toArray⟩, .bool true]) w) := by
  have h1 : AsT (.iface 45 (.slice A n c)) 9 (.string ⟨#[]⟩) false := as_no _ _ _ (by simp [askedT]) (by decide)
  have h2 := as_yes_bytes (.slice A n c)
  have h3 := h.string (P := Try.prog) 45 5 9 Try.underlying45 Try.underlying5 Try.underlying9
  unfold AsT at h1 h2
  go_enter Try.func20, Try.ntmps20
  go_wp2
  go_ret2
  exact ⟨rfl, Below.refl _ _⟩
theorem text_err (k : Int) (s : ByteArray) (hs : s.size ≤ 281474976710656) (he : ∀ w, Calls Try.prog 14 #[.int .i64 k] w (Ans (.string s) w)) : TextOut (.iface 30 (.int .i64 k)) s true := by
  intro w
  have h1 : AsT (.iface 30 (.int .i64 k)) 9 (.string ⟨#[]⟩) false := as_no _ _ _ (by simp [askedT]) (by decide)
  have h2 : AsT (.iface 30 (.int .i64 k)) 45 (.slice none 0 0) false := as_no _ _ _ (by simp [askedT]) (by decide)
  have h3 : AsT (.iface 30 (.int .i64 k)) 65 (.iface 30 (.int .i64 k)) true := fun W => run_typeAssert_hasB Try.underlying65 (by kernel_rfl) _ _ W
  unfold AsT at h1 h2 h3
  go_enter Try.func20, Try.ntmps20
  go_wp2_with fail
  refine (tell_of k s hs he _).mono ?_
  rintro e w1 ⟨rfl, b1⟩
  go_wp2_with fail
  go_ret2
  exact ⟨rfl, b1⟩
end Go.Proofs.Ytgopfoanhiedfaa
