/- Law 10's helpers: same, known. -/
import Derived.Test.YtiacdjnaefnhpaaBuV
namespace Go.Proofs.Ytiacdjnaefnhpaa
open Go.RowKit
set_option linter.unusedVariables false
set_option linter.unusedSimpArgs false
set_option maxRecDepth 20000

set_option maxHeartbeats 1000000 in
theorem same10 (g g' r u l : Nat) (n : Int) (w : World) (hp : PkAt w g r u l) (hb : BkAt w g' r u l) (ok : BkOk r u l) (hn : I64 n) : Calls Try.prog 22 #[.pointer (some ⟨g, 0, none⟩), .pointer (some ⟨g', 0, none⟩), .int .i64 n] w (Dn (.bool true) w) := by
  have hl := ok.level
  have hu := ok.burst
  have c1 : ∀ k, Calls Try.prog 17 #[.pointer (some ⟨g, 0, none⟩)] (w.drewN k) fun e w' => e = .returned (.int .i64 ((l / 1000000 : Nat) : Int)) ∧ ∃ m, w' = (w.drewN k).drewN m := fun k => pk_level g r u l _ (hp.on (belowDrewN w k)) ok
  have c2 : ∀ k, Calls Try.prog 23 #[.pointer (some ⟨g, 0, none⟩)] (w.drewN k) fun e w' => e = .returned (.int .i64 (u : Int)) ∧ ∃ m, w' = (w.drewN k).drewN m := fun k => pk_burst g r u l _ (hp.on (belowDrewN w k))
  have c3 : ∀ k, Calls Try.prog 15 #[.pointer (some ⟨g, 0, none⟩), .int .i64 n] (w.drewN k) fun e w' => e = .returned (.int .i64 (waitN r u l n)) ∧ ∃ m, w' = (w.drewN k).drewN m := fun k => pk_wait g r u l n _ (hp.on (belowDrewN w k)) ok hn
  have c4 : ∀ k, Calls Try.prog 33 #[.pointer (some ⟨g', 0, none⟩), .int .i64 n] (w.drewN k) fun e w' => e = .returned (.int .i64 (waitN r u l n)) ∧ ∃ m, w' = (w.drewN k).drewN m := fun k => (ref_wait g' r u l n _ (hb.on (belowDrewN w k)) ok hn).mono fun _ _ h => Dn.of h
  have k1 : w.cell? ⟨g', 1, none⟩ = some (.int .i64 (u : Int)) := Blk.cell hb 1
  have k2 : w.cell? ⟨g', 2, none⟩ = some (.int .i64 (l : Int)) := Blk.cell hb 2
  have hd : (l : Int).tdiv 1000000 = ((l / 1000000 : Nat) : Int) := by rw [Int.tdiv_eq_ediv_of_nonneg (by omega)]; rfl
  have hd2 : (l : Int) / 1000000 = ((l / 1000000 : Nat) : Int) := by omega
  have yD : IntKind.i64.wrap ((l / 1000000 : Nat) : Int) = ((l / 1000000 : Nat) : Int) := i64_nn _ (by omega)
  clear hp hb ok hn hl hu
  have C1 := Lib.hid c1
  have C2 := Lib.hid c2
  have C3 := Lib.hid c3
  have C4 := Lib.hid c4
  clear c1 c2 c3 c4
  generalize l / 1000000 = D at *
  generalize waitN r u l n = V at *
  go_enter Try.func22, Try.ntmps22
  go_upto_region 1 with (fail)
  go_quiet ((first | (go_at_call 17; refine Calls.quiet_of (C1.out _)) | (go_at_call 23; refine Calls.quiet_of (C2.out _)) | (go_at_call 15; refine Calls.quiet_of (C3.out _)) | (go_at_call 33; refine Calls.quiet_of (C4.out _))))
  go_wp2
  go_ret
  exact ⟨rfl, _, rfl⟩
end Go.Proofs.Ytiacdjnaefnhpaa
