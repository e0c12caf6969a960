/- Contracts: limelightref8.Right, write, Bytes, of any right message. -/
import Derived.Test.YtgjncaobcgjefaaCtZ
import Derived.Test.YtgjncaobcgjefaaCtZb
import Derived.Test.YtgjncaobcgjefaaCtL8
import Derived.Test.YtgjncaobcgjefaaNw
namespace Go.Proofs.Ytgjncaobcgjefaa.RP
open Go.RowKit
set_option linter.unusedVariables false
set_option linter.unusedSimpArgs false
set_option maxRecDepth 20000

set_option maxHeartbeats 4000000 in
theorem ref8_right_ok (x : Ctl) (hx : x.Ok) (A : Option Addr) (c : Nat) (w : World) (hi : RL w w.heap.size A x.layers.length c x.layers) : Calls Try.prog 28 #[x.val A c] w (Ans (.int .i64 0) w) := by
  obtain ⟨h1, h2, h3, h4, h5, h6, h7, h8⟩ := hx
  obtain ⟨k, p, l, e, h, s, y, d⟩ := x
  simp only at h1 h2 h3 h4 h5 h6 h7 h8 hi
  have hc : k = 1 ∨ k = 2 ∨ k = 3 ∨ k = 4 ∨ k = 5 ∨ k = 6 ∨ k = 7 ∨ k = 8 ∨ k = 9 ∨ k = 10 := by omega
  rcases hc with rfl | rfl | rfl | rfl | rfl | rfl | rfl | rfl | rfl | rfl
  · skip
    obtain ⟨P, rfl⟩ : ∃ P : Nat, p = (P : Int) := ⟨p.toNat, by simp at h2 h5; omega⟩
    have ze : e = 0 := by simp at h2 h4 h5 h6 h7 h8; omega
    subst ze
    have zh : h = 0 := by simp at h2 h4 h5 h6 h7 h8; omega
    subst zh
    have zs : s = 0 := by simp at h2 h4 h5 h6 h7 h8; omega
    subst zs
    have zy : y = 0 := by simp at h2 h4 h5 h6 h7 h8; omega
    subst zy
    have zd : d = 0 := by simp at h2 h4 h5 h6 h7 h8; omega
    subst zd
    have zl : l = [] := by simpa using h3
    subst zl
    exact right8_1 P (by simp at h2 h5; omega) (by simp at h2 h4 h5 h6 h7 h8; omega) A c w
  · skip
    have zp : p = 0 := by simp at h2 h4 h5 h6 h7 h8; omega
    subst zp
    have ze : e = 0 := by simp at h2 h4 h5 h6 h7 h8; omega
    subst ze
    have zh : h = 0 := by simp at h2 h4 h5 h6 h7 h8; omega
    subst zh
    have zs : s = 0 := by simp at h2 h4 h5 h6 h7 h8; omega
    subst zs
    have zy : y = 0 := by simp at h2 h4 h5 h6 h7 h8; omega
    subst zy
    have zd : d = 0 := by simp at h2 h4 h5 h6 h7 h8; omega
    subst zd
    have zl : l = [] := by simpa using h3
    subst zl
    exact right8_2   A c w
  · skip
    have zp : p = 0 := by simp at h2 h4 h5 h6 h7 h8; omega
    subst zp
    have ze : e = 0 := by simp at h2 h4 h5 h6 h7 h8; omega
    subst ze
    have zh : h = 0 := by simp at h2 h4 h5 h6 h7 h8; omega
    subst zh
    have zs : s = 0 := by simp at h2 h4 h5 h6 h7 h8; omega
    subst zs
    have zy : y = 0 := by simp at h2 h4 h5 h6 h7 h8; omega
    subst zy
    have zd : d = 0 := by simp at h2 h4 h5 h6 h7 h8; omega
    subst zd
    have hr : rightL l = true := by simpa using h3
    exact right8_3 l.length A c w (fun W hb => ref8_layers l A _ c W ((hi.below hb).more hb.size) hr)
  · skip
    have zp : p = 0 := by simp at h2 h4 h5 h6 h7 h8; omega
    subst zp
    obtain ⟨E, rfl⟩ : ∃ E : Nat, e = (E : Int) := ⟨e.toNat, by simp at h2 h5; omega⟩
    obtain ⟨H, rfl⟩ : ∃ H : Nat, h = (H : Int) := ⟨h.toNat, by simp at h2 h5; omega⟩
    obtain ⟨S, rfl⟩ : ∃ S : Nat, s = (S : Int) := ⟨s.toNat, by simp at h2 h5; omega⟩
    have zy : y = 0 := by simp at h2 h4 h5 h6 h7 h8; omega
    subst zy
    have zd : d = 0 := by simp at h2 h4 h5 h6 h7 h8; omega
    subst zd
    have zl : l = [] := by simpa using h3
    subst zl
    exact right8_4 E H S (by simp at h2 h4 h5 h6 h7 h8; omega) (by simp at h2 h5; omega) (by simp at h2 h4 h5 h6 h7 h8; omega) (by simp at h2 h4 h5 h6 h7 h8; omega) A c w
  · skip
    have zp : p = 0 := by simp at h2 h4 h5 h6 h7 h8; omega
    subst zp
    obtain ⟨E, rfl⟩ : ∃ E : Nat, e = (E : Int) := ⟨e.toNat, by simp at h2 h5; omega⟩
    have zh : h = 0 := by simp at h2 h4 h5 h6 h7 h8; omega
    subst zh
    have zs : s = 0 := by simp at h2 h4 h5 h6 h7 h8; omega
    subst zs
    have zy : y = 0 := by simp at h2 h4 h5 h6 h7 h8; omega
    subst zy
    have zd : d = 0 := by simp at h2 h4 h5 h6 h7 h8; omega
    subst zd
    have zl : l = [] := by simpa using h3
    subst zl
    exact right8_5 E (by simp at h2 h4 h5 h6 h7 h8; omega) A c w
  · skip
    have zp : p = 0 := by simp at h2 h4 h5 h6 h7 h8; omega
    subst zp
    obtain ⟨E, rfl⟩ : ∃ E : Nat, e = (E : Int) := ⟨e.toNat, by simp at h2 h5; omega⟩
    obtain ⟨H, rfl⟩ : ∃ H : Nat, h = (H : Int) := ⟨h.toNat, by simp at h2 h5; omega⟩
    have zs : s = 0 := by simp at h2 h4 h5 h6 h7 h8; omega
    subst zs
    have zy : y = 0 := by simp at h2 h4 h5 h6 h7 h8; omega
    subst zy
    have zd : d = 0 := by simp at h2 h4 h5 h6 h7 h8; omega
    subst zd
    have zl : l = [] := by simpa using h3
    subst zl
    exact right8_6 E H (by simp at h2 h4 h5 h6 h7 h8; omega) (by simp at h2 h5; omega) (by simp at h2 h4 h5 h6 h7 h8; omega) A c w
  · skip
    have zp : p = 0 := by simp at h2 h4 h5 h6 h7 h8; omega
    subst zp
    obtain ⟨E, rfl⟩ : ∃ E : Nat, e = (E : Int) := ⟨e.toNat, by simp at h2 h5; omega⟩
    have zh : h = 0 := by simp at h2 h4 h5 h6 h7 h8; omega
    subst zh
    obtain ⟨S, rfl⟩ : ∃ S : Nat, s = (S : Int) := ⟨s.toNat, by simp at h2 h5; omega⟩
    have zy : y = 0 := by simp at h2 h4 h5 h6 h7 h8; omega
    subst zy
    have zd : d = 0 := by simp at h2 h4 h5 h6 h7 h8; omega
    subst zd
    have zl : l = [] := by simpa using h3
    subst zl
    exact right8_7 E S (by simp at h2 h4 h5 h6 h7 h8; omega) (by simp at h2 h4 h5 h6 h7 h8; omega) A c w
  · skip
    have zp : p = 0 := by simp at h2 h4 h5 h6 h7 h8; omega
    subst zp
    have ze : e = 0 := by simp at h2 h4 h5 h6 h7 h8; omega
    subst ze
    have zh : h = 0 := by simp at h2 h4 h5 h6 h7 h8; omega
    subst zh
    have zs : s = 0 := by simp at h2 h4 h5 h6 h7 h8; omega
    subst zs
    obtain ⟨Y, rfl⟩ : ∃ Y : Nat, y = (Y : Int) := ⟨y.toNat, by simp at h2 h5; omega⟩
    have zd : d = 0 := by simp at h2 h4 h5 h6 h7 h8; omega
    subst zd
    have zl : l = [] := by simpa using h3
    subst zl
    exact right8_8 Y (by simp at h2 h4 h5 h6 h7 h8; omega) A c w
  · skip
    have zp : p = 0 := by simp at h2 h4 h5 h6 h7 h8; omega
    subst zp
    have ze : e = 0 := by simp at h2 h4 h5 h6 h7 h8; omega
    subst ze
    have zh : h = 0 := by simp at h2 h4 h5 h6 h7 h8; omega
    subst zh
    have zs : s = 0 := by simp at h2 h4 h5 h6 h7 h8; omega
    subst zs
    obtain ⟨Y, rfl⟩ : ∃ Y : Nat, y = (Y : Int) := ⟨y.toNat, by simp at h2 h5; omega⟩
    have zd : d = 0 := by simp at h2 h4 h5 h6 h7 h8; omega
    subst zd
    have zl : l = [] := by simpa using h3
    subst zl
    exact right8_9 Y (by simp at h2 h4 h5 h6 h7 h8; omega) A c w
  · skip
    have zp : p = 0 := by simp at h2 h4 h5 h6 h7 h8; omega
    subst zp
    have ze : e = 0 := by simp at h2 h4 h5 h6 h7 h8; omega
    subst ze
    have zh : h = 0 := by simp at h2 h4 h5 h6 h7 h8; omega
    subst zh
    have zs : s = 0 := by simp at h2 h4 h5 h6 h7 h8; omega
    subst zs
    have zy : y = 0 := by simp at h2 h4 h5 h6 h7 h8; omega
    subst zy
    obtain ⟨G, rfl⟩ : ∃ G : Nat, d = (G : Int) := ⟨d.toNat, by simp at h2 h5; omega⟩
    have zl : l = [] := by simpa using h3
    subst zl
    exact right8_10 G (by simp at h2 h4 h5 h6 h7 h8; omega) A c w

set_option maxHeartbeats 4000000 in
theorem ref8_write_ok (x : Ctl) (hx : x.Ok) (A : Option Addr) (c : Nat) (w : World) (hi : RL w w.heap.size A x.layers.length c x.layers) : Calls Try.prog 29 #[x.val A c] w (OwnOut w x.bytes) := by
  obtain ⟨h1, h2, h3, h4, h5, h6, h7, h8⟩ := hx
  obtain ⟨k, p, l, e, h, s, y, d⟩ := x
  simp only at h1 h2 h3 h4 h5 h6 h7 h8 hi
  have hc : k = 1 ∨ k = 2 ∨ k = 3 ∨ k = 4 ∨ k = 5 ∨ k = 6 ∨ k = 7 ∨ k = 8 ∨ k = 9 ∨ k = 10 := by omega
  rcases hc with rfl | rfl | rfl | rfl | rfl | rfl | rfl | rfl | rfl | rfl
  · skip
    obtain ⟨P, rfl⟩ : ∃ P : Nat, p = (P : Int) := ⟨p.toNat, by simp at h2 h5; omega⟩
    have ze : e = 0 := by simp at h2 h4 h5 h6 h7 h8; omega
    subst ze
    have zh : h = 0 := by simp at h2 h4 h5 h6 h7 h8; omega
    subst zh
    have zs : s = 0 := by simp at h2 h4 h5 h6 h7 h8; omega
    subst zs
    have zy : y = 0 := by simp at h2 h4 h5 h6 h7 h8; omega
    subst zy
    have zd : d = 0 := by simp at h2 h4 h5 h6 h7 h8; omega
    subst zd
    have zl : l = [] := by simpa using h3
    subst zl
    have e := write_1 P (by simp at h2 h4 h5 h6 h7 h8; omega) A c w
    refine e.mono ?_
    intro e' w' h
    simpa [bytesK, layF, Ctl.bytes, Ctl.body, Ctl.fields, hasP, hasH, hasK, hasY] using h
  · skip
    have zp : p = 0 := by simp at h2 h4 h5 h6 h7 h8; omega
    subst zp
    have ze : e = 0 := by simp at h2 h4 h5 h6 h7 h8; omega
    subst ze
    have zh : h = 0 := by simp at h2 h4 h5 h6 h7 h8; omega
    subst zh
    have zs : s = 0 := by simp at h2 h4 h5 h6 h7 h8; omega
    subst zs
    have zy : y = 0 := by simp at h2 h4 h5 h6 h7 h8; omega
    subst zy
    have zd : d = 0 := by simp at h2 h4 h5 h6 h7 h8; omega
    subst zd
    have zl : l = [] := by simpa using h3
    subst zl
    have e := write_2   A c w
    refine e.mono ?_
    intro e' w' h
    simpa [bytesK, layF, Ctl.bytes, Ctl.body, Ctl.fields, hasP, hasH, hasK, hasY] using h
  · skip
    have zp : p = 0 := by simp at h2 h4 h5 h6 h7 h8; omega
    subst zp
    have ze : e = 0 := by simp at h2 h4 h5 h6 h7 h8; omega
    subst ze
    have zh : h = 0 := by simp at h2 h4 h5 h6 h7 h8; omega
    subst zh
    have zs : s = 0 := by simp at h2 h4 h5 h6 h7 h8; omega
    subst zs
    have zy : y = 0 := by simp at h2 h4 h5 h6 h7 h8; omega
    subst zy
    have zd : d = 0 := by simp at h2 h4 h5 h6 h7 h8; omega
    subst zd
    have hr : rightL l = true := by simpa using h3
    have e := write_3 l A _ c w hi hr
    refine e.mono ?_
    intro e' w' h
    simpa [bytesK, layF, Ctl.bytes, Ctl.body, Ctl.fields, hasP, hasH, hasK, hasY] using h
  · skip
    have zp : p = 0 := by simp at h2 h4 h5 h6 h7 h8; omega
    subst zp
    obtain ⟨E, rfl⟩ : ∃ E : Nat, e = (E : Int) := ⟨e.toNat, by simp at h2 h5; omega⟩
    obtain ⟨H, rfl⟩ : ∃ H : Nat, h = (H : Int) := ⟨h.toNat, by simp at h2 h5; omega⟩
    obtain ⟨S, rfl⟩ : ∃ S : Nat, s = (S : Int) := ⟨s.toNat, by simp at h2 h5; omega⟩
    have zy : y = 0 := by simp at h2 h4 h5 h6 h7 h8; omega
    subst zy
    have zd : d = 0 := by simp at h2 h4 h5 h6 h7 h8; omega
    subst zd
    have zl : l = [] := by simpa using h3
    subst zl
    have e := write_4 E H S (by simp at h2 h4 h5 h6 h7 h8; omega) (by simp at h2 h4 h5 h6 h7 h8; omega) (by simp at h2 h4 h5 h6 h7 h8; omega) A c w
    refine e.mono ?_
    intro e' w' h
    simpa [bytesK, layF, Ctl.bytes, Ctl.body, Ctl.fields, hasP, hasH, hasK, hasY] using h
  · skip
    have zp : p = 0 := by simp at h2 h4 h5 h6 h7 h8; omega
    subst zp
    obtain ⟨E, rfl⟩ : ∃ E : Nat, e = (E : Int) := ⟨e.toNat, by simp at h2 h5; omega⟩
    have zh : h = 0 := by simp at h2 h4 h5 h6 h7 h8; omega
    subst zh
    have zs : s = 0 := by simp at h2 h4 h5 h6 h7 h8; omega
    subst zs
    have zy : y = 0 := by simp at h2 h4 h5 h6 h7 h8; omega
    subst zy
    have zd : d = 0 := by simp at h2 h4 h5 h6 h7 h8; omega
    subst zd
    have zl : l = [] := by simpa using h3
    subst zl
    have e := write_5 E (by simp at h2 h4 h5 h6 h7 h8; omega) A c w
    refine e.mono ?_
    intro e' w' h
    simpa [bytesK, layF, Ctl.bytes, Ctl.body, Ctl.fields, hasP, hasH, hasK, hasY] using h
  · skip
    have zp : p = 0 := by simp at h2 h4 h5 h6 h7 h8; omega
    subst zp
    obtain ⟨E, rfl⟩ : ∃ E : Nat, e = (E : Int) := ⟨e.toNat, by simp at h2 h5; omega⟩
    obtain ⟨H, rfl⟩ : ∃ H : Nat, h = (H : Int) := ⟨h.toNat, by simp at h2 h5; omega⟩
    have zs : s = 0 := by simp at h2 h4 h5 h6 h7 h8; omega
    subst zs
    have zy : y = 0 := by simp at h2 h4 h5 h6 h7 h8; omega
    subst zy
    have zd : d = 0 := by simp at h2 h4 h5 h6 h7 h8; omega
    subst zd
    have zl : l = [] := by simpa using h3
    subst zl
    have e := write_6 E H (by simp at h2 h4 h5 h6 h7 h8; omega) (by simp at h2 h4 h5 h6 h7 h8; omega) A c w
    refine e.mono ?_
    intro e' w' h
    simpa [bytesK, layF, Ctl.bytes, Ctl.body, Ctl.fields, hasP, hasH, hasK, hasY] using h
  · skip
    have zp : p = 0 := by simp at h2 h4 h5 h6 h7 h8; omega
    subst zp
    obtain ⟨E, rfl⟩ : ∃ E : Nat, e = (E : Int) := ⟨e.toNat, by simp at h2 h5; omega⟩
    have zh : h = 0 := by simp at h2 h4 h5 h6 h7 h8; omega
    subst zh
    obtain ⟨S, rfl⟩ : ∃ S : Nat, s = (S : Int) := ⟨s.toNat, by simp at h2 h5; omega⟩
    have zy : y = 0 := by simp at h2 h4 h5 h6 h7 h8; omega
    subst zy
    have zd : d = 0 := by simp at h2 h4 h5 h6 h7 h8; omega
    subst zd
    have zl : l = [] := by simpa using h3
    subst zl
    have e := write_7 E S (by simp at h2 h4 h5 h6 h7 h8; omega) (by simp at h2 h4 h5 h6 h7 h8; omega) A c w
    refine e.mono ?_
    intro e' w' h
    simpa [bytesK, layF, Ctl.bytes, Ctl.body, Ctl.fields, hasP, hasH, hasK, hasY] using h
  · skip
    have zp : p = 0 := by simp at h2 h4 h5 h6 h7 h8; omega
    subst zp
    have ze : e = 0 := by simp at h2 h4 h5 h6 h7 h8; omega
    subst ze
    have zh : h = 0 := by simp at h2 h4 h5 h6 h7 h8; omega
    subst zh
    have zs : s = 0 := by simp at h2 h4 h5 h6 h7 h8; omega
    subst zs
    obtain ⟨Y, rfl⟩ : ∃ Y : Nat, y = (Y : Int) := ⟨y.toNat, by simp at h2 h5; omega⟩
    have zd : d = 0 := by simp at h2 h4 h5 h6 h7 h8; omega
    subst zd
    have zl : l = [] := by simpa using h3
    subst zl
    have e := write_8 Y (by simp at h2 h4 h5 h6 h7 h8; omega) A c w
    refine e.mono ?_
    intro e' w' h
    simpa [bytesK, layF, Ctl.bytes, Ctl.body, Ctl.fields, hasP, hasH, hasK, hasY] using h
  · skip
    have zp : p = 0 := by simp at h2 h4 h5 h6 h7 h8; omega
    subst zp
    have ze : e = 0 := by simp at h2 h4 h5 h6 h7 h8; omega
    subst ze
    have zh : h = 0 := by simp at h2 h4 h5 h6 h7 h8; omega
    subst zh
    have zs : s = 0 := by simp at h2 h4 h5 h6 h7 h8; omega
    subst zs
    obtain ⟨Y, rfl⟩ : ∃ Y : Nat, y = (Y : Int) := ⟨y.toNat, by simp at h2 h5; omega⟩
    have zd : d = 0 := by simp at h2 h4 h5 h6 h7 h8; omega
    subst zd
    have zl : l = [] := by simpa using h3
    subst zl
    have e := write_9 Y (by simp at h2 h4 h5 h6 h7 h8; omega) A c w
    refine e.mono ?_
    intro e' w' h
    simpa [bytesK, layF, Ctl.bytes, Ctl.body, Ctl.fields, hasP, hasH, hasK, hasY] using h
  · skip
    have zp : p = 0 := by simp at h2 h4 h5 h6 h7 h8; omega
    subst zp
    have ze : e = 0 := by simp at h2 h4 h5 h6 h7 h8; omega
    subst ze
    have zh : h = 0 := by simp at h2 h4 h5 h6 h7 h8; omega
    subst zh
    have zs : s = 0 := by simp at h2 h4 h5 h6 h7 h8; omega
    subst zs
    have zy : y = 0 := by simp at h2 h4 h5 h6 h7 h8; omega
    subst zy
    obtain ⟨G, rfl⟩ : ∃ G : Nat, d = (G : Int) := ⟨d.toNat, by simp at h2 h5; omega⟩
    have zl : l = [] := by simpa using h3
    subst zl
    have e := write_10 G (by simp at h2 h4 h5 h6 h7 h8; omega) A c w
    refine e.mono ?_
    intro e' w' h
    simpa [bytesK, layF, Ctl.bytes, Ctl.body, Ctl.fields, hasP, hasH, hasK, hasY] using h

/-- A row of its own, and no refusal. -/
def BytesOk (l : List UInt8) (w : World) (e : Ending) (w' : World) : Prop := ∃ v, e = .returned (.tuple #[v, .int .i64 0]) ∧ Own8 w' w.heap.size v l ∧ Below w.heap.size w w'
set_option maxHeartbeats 800000 in
theorem ref8_bytes_ok (x : Ctl) (hx : x.Ok) (A : Option Addr) (c : Nat) (w : World) (hi : RL w w.heap.size A x.layers.length c x.layers) : Calls Try.prog 15 #[x.val A c] w (BytesOk x.bytes w) := by
  have hr := fun (W : World) (hb : Below w.heap.size w W) => ref8_right_ok x hx A c W ((hi.below hb).more hb.size)
  have hw := fun (W : World) (hb : Below w.heap.size w W) => ref8_write_ok x hx A c W ((hi.below hb).more hb.size)
  have b0 := below_alloc w (.cells #[.int .i64 x.kind, .int .i64 x.cap, .slice A x.layers.length c, .int .i64 x.peer, .int .i64 x.height, .int .i64 x.cls, .int .i64 x.layer, .int .i64 x.code] 25)
  have hB := Blk.new w 25 #[.int .i64 x.kind, .int .i64 x.cap, .slice A x.layers.length c, .int .i64 x.peer, .int .i64 x.height, .int .i64 x.cls, .int .i64 x.layer, .int .i64 x.code]
  have hlt := hB.lt
  generalize x.bytes = BB at hw ⊢
  clear hi hx
  obtain ⟨k, p, l, e, h, s, y, d⟩ := x
  simp only [Ctl.val] at hr hw b0 hB hlt ⊢
  generalize l.length = m at hr hw b0 hB hlt ⊢
  have HR := Lib.hid hr
  have HW := Lib.hid hw
  clear hr hw
  go_enter Try.func15, Try.ntmps15
  go_upto_region 1 with (fail)
  generalize w.alloc (.cells #[.int .i64 k, .int .i64 p, .slice A m c, .int .i64 e, .int .i64 h, .int .i64 s, .int .i64 y, .int .i64 d] 25) = W0 at b0 hB hlt ⊢
  have kc := blk8 hB
  go_wp2_with fail
  refine (HR.out _ b0).mono ?_
  rintro e1 W1 ⟨rfl, b1⟩
  have hB := hB.below b1 hlt
  have b2 := b0.trans (b1.mono b0.size)
  have hlt := Nat.lt_of_lt_of_le hlt b1.size
  clear kc b0 b1
  have kc := blk8 hB
  go_wp2_with fail
  refine (HW.out _ b2).mono ?_
  rintro e2 W2 ⟨v, rfl, ho, b3⟩
  have b4 := b2.trans (b3.mono b2.size)
  have ho := ho.mono8 (b' := w.heap.size) b2.size
  clear kc hB b3 b2
  go_wp2_with fail
  go_ret2
  exact ⟨v, rfl, ho, b4⟩
end Go.Proofs.Ytgjncaobcgjefaa.RP
