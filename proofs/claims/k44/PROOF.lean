import PyProof.Rows.All
import Wide.All
import OpenK.AllK
import Wide.FinOn
import Lean
import PyProof.EqAt
import PyProof.EqKinds
import PyProof.TupleCall
import KE.KRevIter
import KE.KMinKey
import PySem.Challenge.RW_nearposts_k44_farthest_first
set_option Elab.async false
set_option linter.all false
set_option maxRecDepth 100000
set_option maxHeartbeats 4000000
set_option bootstrap.genMatcherCode false
set_option genSizeOf false
set_option compiler.extract_closed false
namespace L2
theorem ad (h:True:=by decide):True:=trivial
theorem ar (h:True:=by rfl):True:=trivial
theorem aw (h:True:=by with_unfolding_all rfl):True:=trivial
end L2
namespace L2
theorem o_A {P0:Prop} {P1:Prop} {G:Prop} (h:P0 ∧ P1) (f:P0 → P1 → G):G:=by
  obtain ⟨a0,a1⟩:=h
  exact f a0 a1
theorem o_AA {P0:Prop} {P1:Prop} {P2:Prop} {G:Prop} (h:P0 ∧ P1 ∧ P2) (f:P0 → P1 → P2 → G):G:=by
  obtain ⟨a0,a1,a2⟩:=h
  exact f a0 a1 a2
theorem o_AAA {P0:Prop} {P1:Prop} {P2:Prop} {P3:Prop} {G:Prop} (h:P0 ∧ P1 ∧ P2 ∧ P3) (f:P0 → P1 → P2 → P3 → G):G:=by
  obtain ⟨a0,a1,a2,a3⟩:=h
  exact f a0 a1 a2 a3
theorem o_AAAA {P0:Prop} {P1:Prop} {P2:Prop} {P3:Prop} {P4:Prop} {G:Prop} (h:P0 ∧ P1 ∧ P2 ∧ P3 ∧ P4) (f:P0 → P1 → P2 → P3 → P4 → G):G:=by
  obtain ⟨a0,a1,a2,a3,a4⟩:=h
  exact f a0 a1 a2 a3 a4
theorem o_AAAAA {P0:Prop} {P1:Prop} {P2:Prop} {P3:Prop} {P4:Prop} {P5:Prop} {G:Prop} (h:P0 ∧ P1 ∧ P2 ∧ P3 ∧ P4 ∧ P5) (f:P0 → P1 → P2 → P3 → P4 → P5 → G):G:=by
  obtain ⟨a0,a1,a2,a3,a4,a5⟩:=h
  exact f a0 a1 a2 a3 a4 a5
theorem o_AAAAEAA {T0:Sort _} {P0:Prop} {P1:Prop} {P2:Prop} {P3:Prop} {P4:T0 → Prop} {P5:T0 → Prop} {P6:T0 → Prop} {G:Prop} (h:P0 ∧ P1 ∧ P2 ∧ P3 ∧ ∃ x0,P4 x0 ∧ P5 x0 ∧ P6 x0) (f:P0 → P1 → P2 → P3 → ∀ x0,P4 x0 → P5 x0 → P6 x0 → G):G:=by
  obtain ⟨a0,a1,a2,a3,a4,a5,a6,a7⟩:=h
  exact f a0 a1 a2 a3 a4 a5 a6 a7
theorem o_AEA {T0:Sort _} {P0:Prop} {P1:T0 → Prop} {P2:T0 → Prop} {G:Prop} (h:P0 ∧ ∃ x0,P1 x0 ∧ P2 x0) (f:P0 → ∀ x0,P1 x0 → P2 x0 → G):G:=by
  obtain ⟨a0,a1,a2,a3⟩:=h
  exact f a0 a1 a2 a3
theorem o_AEEA {T0:Sort _} {T1:Sort _} {P0:Prop} {P1:T0 → T1 → Prop} {P2:T0 → T1 → Prop} {G:Prop} (h:P0 ∧ ∃ x0,∃ x1,P1 x0 x1 ∧ P2 x0 x1) (f:P0 → ∀ x0,∀ x1,P1 x0 x1 → P2 x0 x1 → G):G:=by
  obtain ⟨a0,a1,a2,a3,a4⟩:=h
  exact f a0 a1 a2 a3 a4
theorem o_AEEAA {T0:Sort _} {T1:Sort _} {P0:Prop} {P1:T0 → T1 → Prop} {P2:T0 → T1 → Prop} {P3:T0 → T1 → Prop} {G:Prop} (h:P0 ∧ ∃ x0,∃ x1,P1 x0 x1 ∧ P2 x0 x1 ∧ P3 x0 x1) (f:P0 → ∀ x0,∀ x1,P1 x0 x1 → P2 x0 x1 → P3 x0 x1 → G):G:=by
  obtain ⟨a0,a1,a2,a3,a4,a5⟩:=h
  exact f a0 a1 a2 a3 a4 a5
theorem o_E {T0:Sort _} {P0:T0 → Prop} {G:Prop} (h:∃ x0,P0 x0) (f:∀ x0,P0 x0 → G):G:=by
  obtain ⟨a0,a1⟩:=h
  exact f a0 a1
theorem o_EA {T0:Sort _} {P0:T0 → Prop} {P1:T0 → Prop} {G:Prop} (h:∃ x0,P0 x0 ∧ P1 x0) (f:∀ x0,P0 x0 → P1 x0 → G):G:=by
  obtain ⟨a0,a1,a2⟩:=h
  exact f a0 a1 a2
theorem o_EAA {T0:Sort _} {P0:T0 → Prop} {P1:T0 → Prop} {P2:T0 → Prop} {G:Prop} (h:∃ x0,P0 x0 ∧ P1 x0 ∧ P2 x0) (f:∀ x0,P0 x0 → P1 x0 → P2 x0 → G):G:=by
  obtain ⟨a0,a1,a2,a3⟩:=h
  exact f a0 a1 a2 a3
theorem o_EAAA {T0:Sort _} {P0:T0 → Prop} {P1:T0 → Prop} {P2:T0 → Prop} {P3:T0 → Prop} {G:Prop} (h:∃ x0,P0 x0 ∧ P1 x0 ∧ P2 x0 ∧ P3 x0) (f:∀ x0,P0 x0 → P1 x0 → P2 x0 → P3 x0 → G):G:=by
  obtain ⟨a0,a1,a2,a3,a4⟩:=h
  exact f a0 a1 a2 a3 a4
theorem o_EAAAA {T0:Sort _} {P0:T0 → Prop} {P1:T0 → Prop} {P2:T0 → Prop} {P3:T0 → Prop} {P4:T0 → Prop} {G:Prop} (h:∃ x0,P0 x0 ∧ P1 x0 ∧ P2 x0 ∧ P3 x0 ∧ P4 x0) (f:∀ x0,P0 x0 → P1 x0 → P2 x0 → P3 x0 → P4 x0 → G):G:=by
  obtain ⟨a0,a1,a2,a3,a4,a5⟩:=h
  exact f a0 a1 a2 a3 a4 a5
theorem o_EAAE {T0:Sort _} {T1:Sort _} {P0:T0 → Prop} {P1:T0 → Prop} {P2:T0 → T1 → Prop} {G:Prop} (h:∃ x0,P0 x0 ∧ P1 x0 ∧ ∃ x1,P2 x0 x1) (f:∀ x0,P0 x0 → P1 x0 → ∀ x1,P2 x0 x1 → G):G:=by
  obtain ⟨a0,a1,a2,a3,a4⟩:=h
  exact f a0 a1 a2 a3 a4
theorem o_EAE {T0:Sort _} {T1:Sort _} {P0:T0 → Prop} {P1:T0 → T1 → Prop} {G:Prop} (h:∃ x0,P0 x0 ∧ ∃ x1,P1 x0 x1) (f:∀ x0,P0 x0 → ∀ x1,P1 x0 x1 → G):G:=by
  obtain ⟨a0,a1,a2,a3⟩:=h
  exact f a0 a1 a2 a3
theorem o_EE {T0:Sort _} {T1:Sort _} {P0:T0 → T1 → Prop} {G:Prop} (h:∃ x0,∃ x1,P0 x0 x1) (f:∀ x0,∀ x1,P0 x0 x1 → G):G:=by
  obtain ⟨a0,a1,a2⟩:=h
  exact f a0 a1 a2
theorem o_EEA {T0:Sort _} {T1:Sort _} {P0:T0 → T1 → Prop} {P1:T0 → T1 → Prop} {G:Prop} (h:∃ x0,∃ x1,P0 x0 x1 ∧ P1 x0 x1) (f:∀ x0,∀ x1,P0 x0 x1 → P1 x0 x1 → G):G:=by
  obtain ⟨a0,a1,a2,a3⟩:=h
  exact f a0 a1 a2 a3
theorem o_EEAA {T0:Sort _} {T1:Sort _} {P0:T0 → T1 → Prop} {P1:T0 → T1 → Prop} {P2:T0 → T1 → Prop} {G:Prop} (h:∃ x0,∃ x1,P0 x0 x1 ∧ P1 x0 x1 ∧ P2 x0 x1) (f:∀ x0,∀ x1,P0 x0 x1 → P1 x0 x1 → P2 x0 x1 → G):G:=by
  obtain ⟨a0,a1,a2,a3,a4⟩:=h
  exact f a0 a1 a2 a3 a4
theorem o_EEAAA {T0:Sort _} {T1:Sort _} {P0:T0 → T1 → Prop} {P1:T0 → T1 → Prop} {P2:T0 → T1 → Prop} {P3:T0 → T1 → Prop} {G:Prop} (h:∃ x0,∃ x1,P0 x0 x1 ∧ P1 x0 x1 ∧ P2 x0 x1 ∧ P3 x0 x1) (f:∀ x0,∀ x1,P0 x0 x1 → P1 x0 x1 → P2 x0 x1 → P3 x0 x1 → G):G:=by
  obtain ⟨a0,a1,a2,a3,a4,a5⟩:=h
  exact f a0 a1 a2 a3 a4 a5
theorem o_EEAAAA {T0:Sort _} {T1:Sort _} {P0:T0 → T1 → Prop} {P1:T0 → T1 → Prop} {P2:T0 → T1 → Prop} {P3:T0 → T1 → Prop} {P4:T0 → T1 → Prop} {G:Prop} (h:∃ x0,∃ x1,P0 x0 x1 ∧ P1 x0 x1 ∧ P2 x0 x1 ∧ P3 x0 x1 ∧ P4 x0 x1) (f:∀ x0,∀ x1,P0 x0 x1 → P1 x0 x1 → P2 x0 x1 → P3 x0 x1 → P4 x0 x1 → G):G:=by
  obtain ⟨a0,a1,a2,a3,a4,a5,a6⟩:=h
  exact f a0 a1 a2 a3 a4 a5 a6
theorem o_EEAAAAA {T0:Sort _} {T1:Sort _} {P0:T0 → T1 → Prop} {P1:T0 → T1 → Prop} {P2:T0 → T1 → Prop} {P3:T0 → T1 → Prop} {P4:T0 → T1 → Prop} {P5:T0 → T1 → Prop} {G:Prop} (h:∃ x0,∃ x1,P0 x0 x1 ∧ P1 x0 x1 ∧ P2 x0 x1 ∧ P3 x0 x1 ∧ P4 x0 x1 ∧ P5 x0 x1) (f:∀ x0,∀ x1,P0 x0 x1 → P1 x0 x1 → P2 x0 x1 → P3 x0 x1 → P4 x0 x1 → P5 x0 x1 → G):G:=by
  obtain ⟨a0,a1,a2,a3,a4,a5,a6,a7⟩:=h
  exact f a0 a1 a2 a3 a4 a5 a6 a7
theorem o_EEEA {T0:Sort _} {T1:Sort _} {T2:Sort _} {P0:T0 → T1 → T2 → Prop} {P1:T0 → T1 → T2 → Prop} {G:Prop} (h:∃ x0,∃ x1,∃ x2,P0 x0 x1 x2 ∧ P1 x0 x1 x2) (f:∀ x0,∀ x1,∀ x2,P0 x0 x1 x2 → P1 x0 x1 x2 → G):G:=by
  obtain ⟨a0,a1,a2,a3,a4⟩:=h
  exact f a0 a1 a2 a3 a4
theorem o_EEEAA {T0:Sort _} {T1:Sort _} {T2:Sort _} {P0:T0 → T1 → T2 → Prop} {P1:T0 → T1 → T2 → Prop} {P2:T0 → T1 → T2 → Prop} {G:Prop} (h:∃ x0,∃ x1,∃ x2,P0 x0 x1 x2 ∧ P1 x0 x1 x2 ∧ P2 x0 x1 x2) (f:∀ x0,∀ x1,∀ x2,P0 x0 x1 x2 → P1 x0 x1 x2 → P2 x0 x1 x2 → G):G:=by
  obtain ⟨a0,a1,a2,a3,a4,a5⟩:=h
  exact f a0 a1 a2 a3 a4 a5
theorem o_EEEAAA {T0:Sort _} {T1:Sort _} {T2:Sort _} {P0:T0 → T1 → T2 → Prop} {P1:T0 → T1 → T2 → Prop} {P2:T0 → T1 → T2 → Prop} {P3:T0 → T1 → T2 → Prop} {G:Prop} (h:∃ x0,∃ x1,∃ x2,P0 x0 x1 x2 ∧ P1 x0 x1 x2 ∧ P2 x0 x1 x2 ∧ P3 x0 x1 x2) (f:∀ x0,∀ x1,∀ x2,P0 x0 x1 x2 → P1 x0 x1 x2 → P2 x0 x1 x2 → P3 x0 x1 x2 → G):G:=by
  obtain ⟨a0,a1,a2,a3,a4,a5,a6⟩:=h
  exact f a0 a1 a2 a3 a4 a5 a6
theorem o_EEEAAAA {T0:Sort _} {T1:Sort _} {T2:Sort _} {P0:T0 → T1 → T2 → Prop} {P1:T0 → T1 → T2 → Prop} {P2:T0 → T1 → T2 → Prop} {P3:T0 → T1 → T2 → Prop} {P4:T0 → T1 → T2 → Prop} {G:Prop} (h:∃ x0,∃ x1,∃ x2,P0 x0 x1 x2 ∧ P1 x0 x1 x2 ∧ P2 x0 x1 x2 ∧ P3 x0 x1 x2 ∧ P4 x0 x1 x2) (f:∀ x0,∀ x1,∀ x2,P0 x0 x1 x2 → P1 x0 x1 x2 → P2 x0 x1 x2 → P3 x0 x1 x2 → P4 x0 x1 x2 → G):G:=by
  obtain ⟨a0,a1,a2,a3,a4,a5,a6,a7⟩:=h
  exact f a0 a1 a2 a3 a4 a5 a6 a7
theorem o_EEEAAAAA {T0:Sort _} {T1:Sort _} {T2:Sort _} {P0:T0 → T1 → T2 → Prop} {P1:T0 → T1 → T2 → Prop} {P2:T0 → T1 → T2 → Prop} {P3:T0 → T1 → T2 → Prop} {P4:T0 → T1 → T2 → Prop} {P5:T0 → T1 → T2 → Prop} {G:Prop} (h:∃ x0,∃ x1,∃ x2,P0 x0 x1 x2 ∧ P1 x0 x1 x2 ∧ P2 x0 x1 x2 ∧ P3 x0 x1 x2 ∧ P4 x0 x1 x2 ∧ P5 x0 x1 x2) (f:∀ x0,∀ x1,∀ x2,P0 x0 x1 x2 → P1 x0 x1 x2 → P2 x0 x1 x2 → P3 x0 x1 x2 → P4 x0 x1 x2 → P5 x0 x1 x2 → G):G:=by
  obtain ⟨a0,a1,a2,a3,a4,a5,a6,a7,a8⟩:=h
  exact f a0 a1 a2 a3 a4 a5 a6 a7 a8
theorem o_EEEAAAAAA {T0:Sort _} {T1:Sort _} {T2:Sort _} {P0:T0 → T1 → T2 → Prop} {P1:T0 → T1 → T2 → Prop} {P2:T0 → T1 → T2 → Prop} {P3:T0 → T1 → T2 → Prop} {P4:T0 → T1 → T2 → Prop} {P5:T0 → T1 → T2 → Prop} {P6:T0 → T1 → T2 → Prop} {G:Prop} (h:∃ x0,∃ x1,∃ x2,P0 x0 x1 x2 ∧ P1 x0 x1 x2 ∧ P2 x0 x1 x2 ∧ P3 x0 x1 x2 ∧ P4 x0 x1 x2 ∧ P5 x0 x1 x2 ∧ P6 x0 x1 x2) (f:∀ x0,∀ x1,∀ x2,P0 x0 x1 x2 → P1 x0 x1 x2 → P2 x0 x1 x2 → P3 x0 x1 x2 → P4 x0 x1 x2 → P5 x0 x1 x2 → P6 x0 x1 x2 → G):G:=by
  obtain ⟨a0,a1,a2,a3,a4,a5,a6,a7,a8,a9⟩:=h
  exact f a0 a1 a2 a3 a4 a5 a6 a7 a8 a9
theorem o_EEEEAAA {T0:Sort _} {T1:Sort _} {T2:Sort _} {T3:Sort _} {P0:T0 → T1 → T2 → T3 → Prop} {P1:T0 → T1 → T2 → T3 → Prop} {P2:T0 → T1 → T2 → T3 → Prop} {P3:T0 → T1 → T2 → T3 → Prop} {G:Prop} (h:∃ x0,∃ x1,∃ x2,∃ x3,P0 x0 x1 x2 x3 ∧ P1 x0 x1 x2 x3 ∧ P2 x0 x1 x2 x3 ∧ P3 x0 x1 x2 x3) (f:∀ x0,∀ x1,∀ x2,∀ x3,P0 x0 x1 x2 x3 → P1 x0 x1 x2 x3 → P2 x0 x1 x2 x3 → P3 x0 x1 x2 x3 → G):G:=by
  obtain ⟨a0,a1,a2,a3,a4,a5,a6,a7⟩:=h
  exact f a0 a1 a2 a3 a4 a5 a6 a7
theorem o_EEEEAAAA {T0:Sort _} {T1:Sort _} {T2:Sort _} {T3:Sort _} {P0:T0 → T1 → T2 → T3 → Prop} {P1:T0 → T1 → T2 → T3 → Prop} {P2:T0 → T1 → T2 → T3 → Prop} {P3:T0 → T1 → T2 → T3 → Prop} {P4:T0 → T1 → T2 → T3 → Prop} {G:Prop} (h:∃ x0,∃ x1,∃ x2,∃ x3,P0 x0 x1 x2 x3 ∧ P1 x0 x1 x2 x3 ∧ P2 x0 x1 x2 x3 ∧ P3 x0 x1 x2 x3 ∧ P4 x0 x1 x2 x3) (f:∀ x0,∀ x1,∀ x2,∀ x3,P0 x0 x1 x2 x3 → P1 x0 x1 x2 x3 → P2 x0 x1 x2 x3 → P3 x0 x1 x2 x3 → P4 x0 x1 x2 x3 → G):G:=by
  obtain ⟨a0,a1,a2,a3,a4,a5,a6,a7,a8⟩:=h
  exact f a0 a1 a2 a3 a4 a5 a6 a7 a8
theorem o_EEEEAAAAA {T0:Sort _} {T1:Sort _} {T2:Sort _} {T3:Sort _} {P0:T0 → T1 → T2 → T3 → Prop} {P1:T0 → T1 → T2 → T3 → Prop} {P2:T0 → T1 → T2 → T3 → Prop} {P3:T0 → T1 → T2 → T3 → Prop} {P4:T0 → T1 → T2 → T3 → Prop} {P5:T0 → T1 → T2 → T3 → Prop} {G:Prop} (h:∃ x0,∃ x1,∃ x2,∃ x3,P0 x0 x1 x2 x3 ∧ P1 x0 x1 x2 x3 ∧ P2 x0 x1 x2 x3 ∧ P3 x0 x1 x2 x3 ∧ P4 x0 x1 x2 x3 ∧ P5 x0 x1 x2 x3) (f:∀ x0,∀ x1,∀ x2,∀ x3,P0 x0 x1 x2 x3 → P1 x0 x1 x2 x3 → P2 x0 x1 x2 x3 → P3 x0 x1 x2 x3 → P4 x0 x1 x2 x3 → P5 x0 x1 x2 x3 → G):G:=by
  obtain ⟨a0,a1,a2,a3,a4,a5,a6,a7,a8,a9⟩:=h
  exact f a0 a1 a2 a3 a4 a5 a6 a7 a8 a9
theorem o_EEEEAAAAAA {T0:Sort _} {T1:Sort _} {T2:Sort _} {T3:Sort _} {P0:T0 → T1 → T2 → T3 → Prop} {P1:T0 → T1 → T2 → T3 → Prop} {P2:T0 → T1 → T2 → T3 → Prop} {P3:T0 → T1 → T2 → T3 → Prop} {P4:T0 → T1 → T2 → T3 → Prop} {P5:T0 → T1 → T2 → T3 → Prop} {P6:T0 → T1 → T2 → T3 → Prop} {G:Prop} (h:∃ x0,∃ x1,∃ x2,∃ x3,P0 x0 x1 x2 x3 ∧ P1 x0 x1 x2 x3 ∧ P2 x0 x1 x2 x3 ∧ P3 x0 x1 x2 x3 ∧ P4 x0 x1 x2 x3 ∧ P5 x0 x1 x2 x3 ∧ P6 x0 x1 x2 x3) (f:∀ x0,∀ x1,∀ x2,∀ x3,P0 x0 x1 x2 x3 → P1 x0 x1 x2 x3 → P2 x0 x1 x2 x3 → P3 x0 x1 x2 x3 → P4 x0 x1 x2 x3 → P5 x0 x1 x2 x3 → P6 x0 x1 x2 x3 → G):G:=by
  obtain ⟨a0,a1,a2,a3,a4,a5,a6,a7,a8,a9,a10⟩:=h
  exact f a0 a1 a2 a3 a4 a5 a6 a7 a8 a9 a10
theorem o_EEEEEAAAA {T0:Sort _} {T1:Sort _} {T2:Sort _} {T3:Sort _} {T4:Sort _} {P0:T0 → T1 → T2 → T3 → T4 → Prop} {P1:T0 → T1 → T2 → T3 → T4 → Prop} {P2:T0 → T1 → T2 → T3 → T4 → Prop} {P3:T0 → T1 → T2 → T3 → T4 → Prop} {P4:T0 → T1 → T2 → T3 → T4 → Prop} {G:Prop} (h:∃ x0,∃ x1,∃ x2,∃ x3,∃ x4,P0 x0 x1 x2 x3 x4 ∧ P1 x0 x1 x2 x3 x4 ∧ P2 x0 x1 x2 x3 x4 ∧ P3 x0 x1 x2 x3 x4 ∧ P4 x0 x1 x2 x3 x4) (f:∀ x0,∀ x1,∀ x2,∀ x3,∀ x4,P0 x0 x1 x2 x3 x4 → P1 x0 x1 x2 x3 x4 → P2 x0 x1 x2 x3 x4 → P3 x0 x1 x2 x3 x4 → P4 x0 x1 x2 x3 x4 → G):G:=by
  obtain ⟨a0,a1,a2,a3,a4,a5,a6,a7,a8,a9⟩:=h
  exact f a0 a1 a2 a3 a4 a5 a6 a7 a8 a9
theorem o_EEEEEAAAAA {T0:Sort _} {T1:Sort _} {T2:Sort _} {T3:Sort _} {T4:Sort _} {P0:T0 → T1 → T2 → T3 → T4 → Prop} {P1:T0 → T1 → T2 → T3 → T4 → Prop} {P2:T0 → T1 → T2 → T3 → T4 → Prop} {P3:T0 → T1 → T2 → T3 → T4 → Prop} {P4:T0 → T1 → T2 → T3 → T4 → Prop} {P5:T0 → T1 → T2 → T3 → T4 → Prop} {G:Prop} (h:∃ x0,∃ x1,∃ x2,∃ x3,∃ x4,P0 x0 x1 x2 x3 x4 ∧ P1 x0 x1 x2 x3 x4 ∧ P2 x0 x1 x2 x3 x4 ∧ P3 x0 x1 x2 x3 x4 ∧ P4 x0 x1 x2 x3 x4 ∧ P5 x0 x1 x2 x3 x4) (f:∀ x0,∀ x1,∀ x2,∀ x3,∀ x4,P0 x0 x1 x2 x3 x4 → P1 x0 x1 x2 x3 x4 → P2 x0 x1 x2 x3 x4 → P3 x0 x1 x2 x3 x4 → P4 x0 x1 x2 x3 x4 → P5 x0 x1 x2 x3 x4 → G):G:=by
  obtain ⟨a0,a1,a2,a3,a4,a5,a6,a7,a8,a9,a10⟩:=h
  exact f a0 a1 a2 a3 a4 a5 a6 a7 a8 a9 a10
theorem o_EEEEEEAAA {T0:Sort _} {T1:Sort _} {T2:Sort _} {T3:Sort _} {T4:Sort _} {T5:Sort _} {P0:T0 → T1 → T2 → T3 → T4 → T5 → Prop} {P1:T0 → T1 → T2 → T3 → T4 → T5 → Prop} {P2:T0 → T1 → T2 → T3 → T4 → T5 → Prop} {P3:T0 → T1 → T2 → T3 → T4 → T5 → Prop} {G:Prop} (h:∃ x0,∃ x1,∃ x2,∃ x3,∃ x4,∃ x5,P0 x0 x1 x2 x3 x4 x5 ∧ P1 x0 x1 x2 x3 x4 x5 ∧ P2 x0 x1 x2 x3 x4 x5 ∧ P3 x0 x1 x2 x3 x4 x5) (f:∀ x0,∀ x1,∀ x2,∀ x3,∀ x4,∀ x5,P0 x0 x1 x2 x3 x4 x5 → P1 x0 x1 x2 x3 x4 x5 → P2 x0 x1 x2 x3 x4 x5 → P3 x0 x1 x2 x3 x4 x5 → G):G:=by
  obtain ⟨a0,a1,a2,a3,a4,a5,a6,a7,a8,a9⟩:=h
  exact f a0 a1 a2 a3 a4 a5 a6 a7 a8 a9
theorem o_EEEEEEEAAAAA {T0:Sort _} {T1:Sort _} {T2:Sort _} {T3:Sort _} {T4:Sort _} {T5:Sort _} {T6:Sort _} {P0:T0 → T1 → T2 → T3 → T4 → T5 → T6 → Prop} {P1:T0 → T1 → T2 → T3 → T4 → T5 → T6 → Prop} {P2:T0 → T1 → T2 → T3 → T4 → T5 → T6 → Prop} {P3:T0 → T1 → T2 → T3 → T4 → T5 → T6 → Prop} {P4:T0 → T1 → T2 → T3 → T4 → T5 → T6 → Prop} {P5:T0 → T1 → T2 → T3 → T4 → T5 → T6 → Prop} {G:Prop} (h:∃ x0,∃ x1,∃ x2,∃ x3,∃ x4,∃ x5,∃ x6,P0 x0 x1 x2 x3 x4 x5 x6 ∧ P1 x0 x1 x2 x3 x4 x5 x6 ∧ P2 x0 x1 x2 x3 x4 x5 x6 ∧ P3 x0 x1 x2 x3 x4 x5 x6 ∧ P4 x0 x1 x2 x3 x4 x5 x6 ∧ P5 x0 x1 x2 x3 x4 x5 x6) (f:∀ x0,∀ x1,∀ x2,∀ x3,∀ x4,∀ x5,∀ x6,P0 x0 x1 x2 x3 x4 x5 x6 → P1 x0 x1 x2 x3 x4 x5 x6 → P2 x0 x1 x2 x3 x4 x5 x6 → P3 x0 x1 x2 x3 x4 x5 x6 → P4 x0 x1 x2 x3 x4 x5 x6 → P5 x0 x1 x2 x3 x4 x5 x6 → G):G:=by
  obtain ⟨a0,a1,a2,a3,a4,a5,a6,a7,a8,a9,a10,a11,a12⟩:=h
  exact f a0 a1 a2 a3 a4 a5 a6 a7 a8 a9 a10 a11 a12
theorem o_EEEEEEEEEAA {T0:Sort _} {T1:Sort _} {T2:Sort _} {T3:Sort _} {T4:Sort _} {T5:Sort _} {T6:Sort _} {T7:Sort _} {T8:Sort _} {P0:T0 → T1 → T2 → T3 → T4 → T5 → T6 → T7 → T8 → Prop} {P1:T0 → T1 → T2 → T3 → T4 → T5 → T6 → T7 → T8 → Prop} {P2:T0 → T1 → T2 → T3 → T4 → T5 → T6 → T7 → T8 → Prop} {G:Prop} (h:∃ x0,∃ x1,∃ x2,∃ x3,∃ x4,∃ x5,∃ x6,∃ x7,∃ x8,P0 x0 x1 x2 x3 x4 x5 x6 x7 x8 ∧ P1 x0 x1 x2 x3 x4 x5 x6 x7 x8 ∧ P2 x0 x1 x2 x3 x4 x5 x6 x7 x8) (f:∀ x0,∀ x1,∀ x2,∀ x3,∀ x4,∀ x5,∀ x6,∀ x7,∀ x8,P0 x0 x1 x2 x3 x4 x5 x6 x7 x8 → P1 x0 x1 x2 x3 x4 x5 x6 x7 x8 → P2 x0 x1 x2 x3 x4 x5 x6 x7 x8 → G):G:=by
  obtain ⟨a0,a1,a2,a3,a4,a5,a6,a7,a8,a9,a10,a11⟩:=h
  exact f a0 a1 a2 a3 a4 a5 a6 a7 a8 a9 a10 a11
theorem o_EEEEEEEEEAAAAAAA {T0:Sort _} {T1:Sort _} {T2:Sort _} {T3:Sort _} {T4:Sort _} {T5:Sort _} {T6:Sort _} {T7:Sort _} {T8:Sort _} {P0:T0 → T1 → T2 → T3 → T4 → T5 → T6 → T7 → T8 → Prop} {P1:T0 → T1 → T2 → T3 → T4 → T5 → T6 → T7 → T8 → Prop} {P2:T0 → T1 → T2 → T3 → T4 → T5 → T6 → T7 → T8 → Prop} {P3:T0 → T1 → T2 → T3 → T4 → T5 → T6 → T7 → T8 → Prop} {P4:T0 → T1 → T2 → T3 → T4 → T5 → T6 → T7 → T8 → Prop} {P5:T0 → T1 → T2 → T3 → T4 → T5 → T6 → T7 → T8 → Prop} {P6:T0 → T1 → T2 → T3 → T4 → T5 → T6 → T7 → T8 → Prop} {P7:T0 → T1 → T2 → T3 → T4 → T5 → T6 → T7 → T8 → Prop} {G:Prop} (h:∃ x0,∃ x1,∃ x2,∃ x3,∃ x4,∃ x5,∃ x6,∃ x7,∃ x8,P0 x0 x1 x2 x3 x4 x5 x6 x7 x8 ∧ P1 x0 x1 x2 x3 x4 x5 x6 x7 x8 ∧ P2 x0 x1 x2 x3 x4 x5 x6 x7 x8 ∧ P3 x0 x1 x2 x3 x4 x5 x6 x7 x8 ∧ P4 x0 x1 x2 x3 x4 x5 x6 x7 x8 ∧ P5 x0 x1 x2 x3 x4 x5 x6 x7 x8 ∧ P6 x0 x1 x2 x3 x4 x5 x6 x7 x8 ∧ P7 x0 x1 x2 x3 x4 x5 x6 x7 x8) (f:∀ x0,∀ x1,∀ x2,∀ x3,∀ x4,∀ x5,∀ x6,∀ x7,∀ x8,P0 x0 x1 x2 x3 x4 x5 x6 x7 x8 → P1 x0 x1 x2 x3 x4 x5 x6 x7 x8 → P2 x0 x1 x2 x3 x4 x5 x6 x7 x8 → P3 x0 x1 x2 x3 x4 x5 x6 x7 x8 → P4 x0 x1 x2 x3 x4 x5 x6 x7 x8 → P5 x0 x1 x2 x3 x4 x5 x6 x7 x8 → P6 x0 x1 x2 x3 x4 x5 x6 x7 x8 → P7 x0 x1 x2 x3 x4 x5 x6 x7 x8 → G):G:=by
  obtain ⟨a0,a1,a2,a3,a4,a5,a6,a7,a8,a9,a10,a11,a12,a13,a14,a15,a16⟩:=h
  exact f a0 a1 a2 a3 a4 a5 a6 a7 a8 a9 a10 a11 a12 a13 a14 a15 a16
theorem o_EEEEEEEEEEEEEEEEEA {T0:Sort _} {T1:Sort _} {T2:Sort _} {T3:Sort _} {T4:Sort _} {T5:Sort _} {T6:Sort _} {T7:Sort _} {T8:Sort _} {T9:Sort _} {T10:Sort _} {T11:Sort _} {T12:Sort _} {T13:Sort _} {T14:Sort _} {T15:Sort _} {T16:Sort _} {P0:T0 → T1 → T2 → T3 → T4 → T5 → T6 → T7 → T8 → T9 → T10 → T11 → T12 → T13 → T14 → T15 → T16 → Prop} {P1:T0 → T1 → T2 → T3 → T4 → T5 → T6 → T7 → T8 → T9 → T10 → T11 → T12 → T13 → T14 → T15 → T16 → Prop} {G:Prop} (h:∃ x0,∃ x1,∃ x2,∃ x3,∃ x4,∃ x5,∃ x6,∃ x7,∃ x8,∃ x9,∃ x10,∃ x11,∃ x12,∃ x13,∃ x14,∃ x15,∃ x16,P0 x0 x1 x2 x3 x4 x5 x6 x7 x8 x9 x10 x11 x12 x13 x14 x15 x16 ∧ P1 x0 x1 x2 x3 x4 x5 x6 x7 x8 x9 x10 x11 x12 x13 x14 x15 x16) (f:∀ x0,∀ x1,∀ x2,∀ x3,∀ x4,∀ x5,∀ x6,∀ x7,∀ x8,∀ x9,∀ x10,∀ x11,∀ x12,∀ x13,∀ x14,∀ x15,∀ x16,P0 x0 x1 x2 x3 x4 x5 x6 x7 x8 x9 x10 x11 x12 x13 x14 x15 x16 → P1 x0 x1 x2 x3 x4 x5 x6 x7 x8 x9 x10 x11 x12 x13 x14 x15 x16 → G):G:=by
  obtain ⟨a0,a1,a2,a3,a4,a5,a6,a7,a8,a9,a10,a11,a12,a13,a14,a15,a16,a17,a18⟩:=h
  exact f a0 a1 a2 a3 a4 a5 a6 a7 a8 a9 a10 a11 a12 a13 a14 a15 a16 a17 a18
theorem i_AAEEA {T0:Sort _} {T1:Sort _} {P0:Prop} {P1:Prop} {P2:T0 → T1 → Prop} {P3:T0 → T1 → Prop} (p0:P0) (p1:P1) (x0:T0) (x1:T1) (p2:P2 x0 x1) (p3:P3 x0 x1):P0 ∧ P1 ∧ ∃ x0,∃ x1,P2 x0 x1 ∧ P3 x0 x1:=⟨p0,p1,x0,x1,p2,p3⟩
theorem i_AEEA {T0:Sort _} {T1:Sort _} {P0:Prop} {P1:T0 → T1 → Prop} {P2:T0 → T1 → Prop} (p0:P0) (x0:T0) (x1:T1) (p1:P1 x0 x1) (p2:P2 x0 x1):P0 ∧ ∃ x0,∃ x1,P1 x0 x1 ∧ P2 x0 x1:=⟨p0,x0,x1,p1,p2⟩
theorem i_AEEAA {T0:Sort _} {T1:Sort _} {P0:Prop} {P1:T0 → T1 → Prop} {P2:T0 → T1 → Prop} {P3:T0 → T1 → Prop} (p0:P0) (x0:T0) (x1:T1) (p1:P1 x0 x1) (p2:P2 x0 x1) (p3:P3 x0 x1):P0 ∧ ∃ x0,∃ x1,P1 x0 x1 ∧ P2 x0 x1 ∧ P3 x0 x1:=⟨p0,x0,x1,p1,p2,p3⟩
theorem i_AEEEAAAA {T0:Sort _} {T1:Sort _} {T2:Sort _} {P0:Prop} {P1:T0 → T1 → T2 → Prop} {P2:T0 → T1 → T2 → Prop} {P3:T0 → T1 → T2 → Prop} {P4:T0 → T1 → T2 → Prop} {P5:T0 → T1 → T2 → Prop} (p0:P0) (x0:T0) (x1:T1) (x2:T2) (p1:P1 x0 x1 x2) (p2:P2 x0 x1 x2) (p3:P3 x0 x1 x2) (p4:P4 x0 x1 x2) (p5:P5 x0 x1 x2):P0 ∧ ∃ x0,∃ x1,∃ x2,P1 x0 x1 x2 ∧ P2 x0 x1 x2 ∧ P3 x0 x1 x2 ∧ P4 x0 x1 x2 ∧ P5 x0 x1 x2:=⟨p0,x0,x1,x2,p1,p2,p3,p4,p5⟩
theorem i_EAEEA {T0:Sort _} {T1:Sort _} {T2:Sort _} {P0:T0 → Prop} {P1:T0 → T1 → T2 → Prop} {P2:T0 → T1 → T2 → Prop} (x0:T0) (p0:P0 x0) (x1:T1) (x2:T2) (p1:P1 x0 x1 x2) (p2:P2 x0 x1 x2):∃ x0,P0 x0 ∧ ∃ x1,∃ x2,P1 x0 x1 x2 ∧ P2 x0 x1 x2:=⟨x0,p0,x1,x2,p1,p2⟩
theorem i_EAEEEAAA {T0:Sort _} {T1:Sort _} {T2:Sort _} {T3:Sort _} {P0:T0 → Prop} {P1:T0 → T1 → T2 → T3 → Prop} {P2:T0 → T1 → T2 → T3 → Prop} {P3:T0 → T1 → T2 → T3 → Prop} {P4:T0 → T1 → T2 → T3 → Prop} (x0:T0) (p0:P0 x0) (x1:T1) (x2:T2) (x3:T3) (p1:P1 x0 x1 x2 x3) (p2:P2 x0 x1 x2 x3) (p3:P3 x0 x1 x2 x3) (p4:P4 x0 x1 x2 x3):∃ x0,P0 x0 ∧ ∃ x1,∃ x2,∃ x3,P1 x0 x1 x2 x3 ∧ P2 x0 x1 x2 x3 ∧ P3 x0 x1 x2 x3 ∧ P4 x0 x1 x2 x3:=⟨x0,p0,x1,x2,x3,p1,p2,p3,p4⟩
theorem i_EEA {T0:Sort _} {T1:Sort _} {P0:T0 → T1 → Prop} {P1:T0 → T1 → Prop} (x0:T0) (x1:T1) (p0:P0 x0 x1) (p1:P1 x0 x1):∃ x0,∃ x1,P0 x0 x1 ∧ P1 x0 x1:=⟨x0,x1,p0,p1⟩
theorem i_EEAA {T0:Sort _} {T1:Sort _} {P0:T0 → T1 → Prop} {P1:T0 → T1 → Prop} {P2:T0 → T1 → Prop} (x0:T0) (x1:T1) (p0:P0 x0 x1) (p1:P1 x0 x1) (p2:P2 x0 x1):∃ x0,∃ x1,P0 x0 x1 ∧ P1 x0 x1 ∧ P2 x0 x1:=⟨x0,x1,p0,p1,p2⟩
theorem i_EEAAA {T0:Sort _} {T1:Sort _} {P0:T0 → T1 → Prop} {P1:T0 → T1 → Prop} {P2:T0 → T1 → Prop} {P3:T0 → T1 → Prop} (x0:T0) (x1:T1) (p0:P0 x0 x1) (p1:P1 x0 x1) (p2:P2 x0 x1) (p3:P3 x0 x1):∃ x0,∃ x1,P0 x0 x1 ∧ P1 x0 x1 ∧ P2 x0 x1 ∧ P3 x0 x1:=⟨x0,x1,p0,p1,p2,p3⟩
theorem i_EEAAAA {T0:Sort _} {T1:Sort _} {P0:T0 → T1 → Prop} {P1:T0 → T1 → Prop} {P2:T0 → T1 → Prop} {P3:T0 → T1 → Prop} {P4:T0 → T1 → Prop} (x0:T0) (x1:T1) (p0:P0 x0 x1) (p1:P1 x0 x1) (p2:P2 x0 x1) (p3:P3 x0 x1) (p4:P4 x0 x1):∃ x0,∃ x1,P0 x0 x1 ∧ P1 x0 x1 ∧ P2 x0 x1 ∧ P3 x0 x1 ∧ P4 x0 x1:=⟨x0,x1,p0,p1,p2,p3,p4⟩
theorem i_EEAAAAA {T0:Sort _} {T1:Sort _} {P0:T0 → T1 → Prop} {P1:T0 → T1 → Prop} {P2:T0 → T1 → Prop} {P3:T0 → T1 → Prop} {P4:T0 → T1 → Prop} {P5:T0 → T1 → Prop} (x0:T0) (x1:T1) (p0:P0 x0 x1) (p1:P1 x0 x1) (p2:P2 x0 x1) (p3:P3 x0 x1) (p4:P4 x0 x1) (p5:P5 x0 x1):∃ x0,∃ x1,P0 x0 x1 ∧ P1 x0 x1 ∧ P2 x0 x1 ∧ P3 x0 x1 ∧ P4 x0 x1 ∧ P5 x0 x1:=⟨x0,x1,p0,p1,p2,p3,p4,p5⟩
theorem i_EEAAAAAAA {T0:Sort _} {T1:Sort _} {P0:T0 → T1 → Prop} {P1:T0 → T1 → Prop} {P2:T0 → T1 → Prop} {P3:T0 → T1 → Prop} {P4:T0 → T1 → Prop} {P5:T0 → T1 → Prop} {P6:T0 → T1 → Prop} {P7:T0 → T1 → Prop} (x0:T0) (x1:T1) (p0:P0 x0 x1) (p1:P1 x0 x1) (p2:P2 x0 x1) (p3:P3 x0 x1) (p4:P4 x0 x1) (p5:P5 x0 x1) (p6:P6 x0 x1) (p7:P7 x0 x1):∃ x0,∃ x1,P0 x0 x1 ∧ P1 x0 x1 ∧ P2 x0 x1 ∧ P3 x0 x1 ∧ P4 x0 x1 ∧ P5 x0 x1 ∧ P6 x0 x1 ∧ P7 x0 x1:=⟨x0,x1,p0,p1,p2,p3,p4,p5,p6,p7⟩
theorem i_EEEA {T0:Sort _} {T1:Sort _} {T2:Sort _} {P0:T0 → T1 → T2 → Prop} {P1:T0 → T1 → T2 → Prop} (x0:T0) (x1:T1) (x2:T2) (p0:P0 x0 x1 x2) (p1:P1 x0 x1 x2):∃ x0,∃ x1,∃ x2,P0 x0 x1 x2 ∧ P1 x0 x1 x2:=⟨x0,x1,x2,p0,p1⟩
theorem i_EEEAA {T0:Sort _} {T1:Sort _} {T2:Sort _} {P0:T0 → T1 → T2 → Prop} {P1:T0 → T1 → T2 → Prop} {P2:T0 → T1 → T2 → Prop} (x0:T0) (x1:T1) (x2:T2) (p0:P0 x0 x1 x2) (p1:P1 x0 x1 x2) (p2:P2 x0 x1 x2):∃ x0,∃ x1,∃ x2,P0 x0 x1 x2 ∧ P1 x0 x1 x2 ∧ P2 x0 x1 x2:=⟨x0,x1,x2,p0,p1,p2⟩
theorem i_EEEAAA {T0:Sort _} {T1:Sort _} {T2:Sort _} {P0:T0 → T1 → T2 → Prop} {P1:T0 → T1 → T2 → Prop} {P2:T0 → T1 → T2 → Prop} {P3:T0 → T1 → T2 → Prop} (x0:T0) (x1:T1) (x2:T2) (p0:P0 x0 x1 x2) (p1:P1 x0 x1 x2) (p2:P2 x0 x1 x2) (p3:P3 x0 x1 x2):∃ x0,∃ x1,∃ x2,P0 x0 x1 x2 ∧ P1 x0 x1 x2 ∧ P2 x0 x1 x2 ∧ P3 x0 x1 x2:=⟨x0,x1,x2,p0,p1,p2,p3⟩
theorem i_EEEAAAA {T0:Sort _} {T1:Sort _} {T2:Sort _} {P0:T0 → T1 → T2 → Prop} {P1:T0 → T1 → T2 → Prop} {P2:T0 → T1 → T2 → Prop} {P3:T0 → T1 → T2 → Prop} {P4:T0 → T1 → T2 → Prop} (x0:T0) (x1:T1) (x2:T2) (p0:P0 x0 x1 x2) (p1:P1 x0 x1 x2) (p2:P2 x0 x1 x2) (p3:P3 x0 x1 x2) (p4:P4 x0 x1 x2):∃ x0,∃ x1,∃ x2,P0 x0 x1 x2 ∧ P1 x0 x1 x2 ∧ P2 x0 x1 x2 ∧ P3 x0 x1 x2 ∧ P4 x0 x1 x2:=⟨x0,x1,x2,p0,p1,p2,p3,p4⟩
theorem i_EEEAAAAA {T0:Sort _} {T1:Sort _} {T2:Sort _} {P0:T0 → T1 → T2 → Prop} {P1:T0 → T1 → T2 → Prop} {P2:T0 → T1 → T2 → Prop} {P3:T0 → T1 → T2 → Prop} {P4:T0 → T1 → T2 → Prop} {P5:T0 → T1 → T2 → Prop} (x0:T0) (x1:T1) (x2:T2) (p0:P0 x0 x1 x2) (p1:P1 x0 x1 x2) (p2:P2 x0 x1 x2) (p3:P3 x0 x1 x2) (p4:P4 x0 x1 x2) (p5:P5 x0 x1 x2):∃ x0,∃ x1,∃ x2,P0 x0 x1 x2 ∧ P1 x0 x1 x2 ∧ P2 x0 x1 x2 ∧ P3 x0 x1 x2 ∧ P4 x0 x1 x2 ∧ P5 x0 x1 x2:=⟨x0,x1,x2,p0,p1,p2,p3,p4,p5⟩
theorem i_EEEAAAAAA {T0:Sort _} {T1:Sort _} {T2:Sort _} {P0:T0 → T1 → T2 → Prop} {P1:T0 → T1 → T2 → Prop} {P2:T0 → T1 → T2 → Prop} {P3:T0 → T1 → T2 → Prop} {P4:T0 → T1 → T2 → Prop} {P5:T0 → T1 → T2 → Prop} {P6:T0 → T1 → T2 → Prop} (x0:T0) (x1:T1) (x2:T2) (p0:P0 x0 x1 x2) (p1:P1 x0 x1 x2) (p2:P2 x0 x1 x2) (p3:P3 x0 x1 x2) (p4:P4 x0 x1 x2) (p5:P5 x0 x1 x2) (p6:P6 x0 x1 x2):∃ x0,∃ x1,∃ x2,P0 x0 x1 x2 ∧ P1 x0 x1 x2 ∧ P2 x0 x1 x2 ∧ P3 x0 x1 x2 ∧ P4 x0 x1 x2 ∧ P5 x0 x1 x2 ∧ P6 x0 x1 x2:=⟨x0,x1,x2,p0,p1,p2,p3,p4,p5,p6⟩
theorem i_EEEEAAA {T0:Sort _} {T1:Sort _} {T2:Sort _} {T3:Sort _} {P0:T0 → T1 → T2 → T3 → Prop} {P1:T0 → T1 → T2 → T3 → Prop} {P2:T0 → T1 → T2 → T3 → Prop} {P3:T0 → T1 → T2 → T3 → Prop} (x0:T0) (x1:T1) (x2:T2) (x3:T3) (p0:P0 x0 x1 x2 x3) (p1:P1 x0 x1 x2 x3) (p2:P2 x0 x1 x2 x3) (p3:P3 x0 x1 x2 x3):∃ x0,∃ x1,∃ x2,∃ x3,P0 x0 x1 x2 x3 ∧ P1 x0 x1 x2 x3 ∧ P2 x0 x1 x2 x3 ∧ P3 x0 x1 x2 x3:=⟨x0,x1,x2,x3,p0,p1,p2,p3⟩
theorem i_EEEEAAAA {T0:Sort _} {T1:Sort _} {T2:Sort _} {T3:Sort _} {P0:T0 → T1 → T2 → T3 → Prop} {P1:T0 → T1 → T2 → T3 → Prop} {P2:T0 → T1 → T2 → T3 → Prop} {P3:T0 → T1 → T2 → T3 → Prop} {P4:T0 → T1 → T2 → T3 → Prop} (x0:T0) (x1:T1) (x2:T2) (x3:T3) (p0:P0 x0 x1 x2 x3) (p1:P1 x0 x1 x2 x3) (p2:P2 x0 x1 x2 x3) (p3:P3 x0 x1 x2 x3) (p4:P4 x0 x1 x2 x3):∃ x0,∃ x1,∃ x2,∃ x3,P0 x0 x1 x2 x3 ∧ P1 x0 x1 x2 x3 ∧ P2 x0 x1 x2 x3 ∧ P3 x0 x1 x2 x3 ∧ P4 x0 x1 x2 x3:=⟨x0,x1,x2,x3,p0,p1,p2,p3,p4⟩
theorem i_EEEEAAAAA {T0:Sort _} {T1:Sort _} {T2:Sort _} {T3:Sort _} {P0:T0 → T1 → T2 → T3 → Prop} {P1:T0 → T1 → T2 → T3 → Prop} {P2:T0 → T1 → T2 → T3 → Prop} {P3:T0 → T1 → T2 → T3 → Prop} {P4:T0 → T1 → T2 → T3 → Prop} {P5:T0 → T1 → T2 → T3 → Prop} (x0:T0) (x1:T1) (x2:T2) (x3:T3) (p0:P0 x0 x1 x2 x3) (p1:P1 x0 x1 x2 x3) (p2:P2 x0 x1 x2 x3) (p3:P3 x0 x1 x2 x3) (p4:P4 x0 x1 x2 x3) (p5:P5 x0 x1 x2 x3):∃ x0,∃ x1,∃ x2,∃ x3,P0 x0 x1 x2 x3 ∧ P1 x0 x1 x2 x3 ∧ P2 x0 x1 x2 x3 ∧ P3 x0 x1 x2 x3 ∧ P4 x0 x1 x2 x3 ∧ P5 x0 x1 x2 x3:=⟨x0,x1,x2,x3,p0,p1,p2,p3,p4,p5⟩
theorem i_EEEEAAAAAA {T0:Sort _} {T1:Sort _} {T2:Sort _} {T3:Sort _} {P0:T0 → T1 → T2 → T3 → Prop} {P1:T0 → T1 → T2 → T3 → Prop} {P2:T0 → T1 → T2 → T3 → Prop} {P3:T0 → T1 → T2 → T3 → Prop} {P4:T0 → T1 → T2 → T3 → Prop} {P5:T0 → T1 → T2 → T3 → Prop} {P6:T0 → T1 → T2 → T3 → Prop} (x0:T0) (x1:T1) (x2:T2) (x3:T3) (p0:P0 x0 x1 x2 x3) (p1:P1 x0 x1 x2 x3) (p2:P2 x0 x1 x2 x3) (p3:P3 x0 x1 x2 x3) (p4:P4 x0 x1 x2 x3) (p5:P5 x0 x1 x2 x3) (p6:P6 x0 x1 x2 x3):∃ x0,∃ x1,∃ x2,∃ x3,P0 x0 x1 x2 x3 ∧ P1 x0 x1 x2 x3 ∧ P2 x0 x1 x2 x3 ∧ P3 x0 x1 x2 x3 ∧ P4 x0 x1 x2 x3 ∧ P5 x0 x1 x2 x3 ∧ P6 x0 x1 x2 x3:=⟨x0,x1,x2,x3,p0,p1,p2,p3,p4,p5,p6⟩
theorem i_EEEEEAAAA {T0:Sort _} {T1:Sort _} {T2:Sort _} {T3:Sort _} {T4:Sort _} {P0:T0 → T1 → T2 → T3 → T4 → Prop} {P1:T0 → T1 → T2 → T3 → T4 → Prop} {P2:T0 → T1 → T2 → T3 → T4 → Prop} {P3:T0 → T1 → T2 → T3 → T4 → Prop} {P4:T0 → T1 → T2 → T3 → T4 → Prop} (x0:T0) (x1:T1) (x2:T2) (x3:T3) (x4:T4) (p0:P0 x0 x1 x2 x3 x4) (p1:P1 x0 x1 x2 x3 x4) (p2:P2 x0 x1 x2 x3 x4) (p3:P3 x0 x1 x2 x3 x4) (p4:P4 x0 x1 x2 x3 x4):∃ x0,∃ x1,∃ x2,∃ x3,∃ x4,P0 x0 x1 x2 x3 x4 ∧ P1 x0 x1 x2 x3 x4 ∧ P2 x0 x1 x2 x3 x4 ∧ P3 x0 x1 x2 x3 x4 ∧ P4 x0 x1 x2 x3 x4:=⟨x0,x1,x2,x3,x4,p0,p1,p2,p3,p4⟩
theorem i_EEEEEAAAAA {T0:Sort _} {T1:Sort _} {T2:Sort _} {T3:Sort _} {T4:Sort _} {P0:T0 → T1 → T2 → T3 → T4 → Prop} {P1:T0 → T1 → T2 → T3 → T4 → Prop} {P2:T0 → T1 → T2 → T3 → T4 → Prop} {P3:T0 → T1 → T2 → T3 → T4 → Prop} {P4:T0 → T1 → T2 → T3 → T4 → Prop} {P5:T0 → T1 → T2 → T3 → T4 → Prop} (x0:T0) (x1:T1) (x2:T2) (x3:T3) (x4:T4) (p0:P0 x0 x1 x2 x3 x4) (p1:P1 x0 x1 x2 x3 x4) (p2:P2 x0 x1 x2 x3 x4) (p3:P3 x0 x1 x2 x3 x4) (p4:P4 x0 x1 x2 x3 x4) (p5:P5 x0 x1 x2 x3 x4):∃ x0,∃ x1,∃ x2,∃ x3,∃ x4,P0 x0 x1 x2 x3 x4 ∧ P1 x0 x1 x2 x3 x4 ∧ P2 x0 x1 x2 x3 x4 ∧ P3 x0 x1 x2 x3 x4 ∧ P4 x0 x1 x2 x3 x4 ∧ P5 x0 x1 x2 x3 x4:=⟨x0,x1,x2,x3,x4,p0,p1,p2,p3,p4,p5⟩
theorem i_EEEEEEAAA {T0:Sort _} {T1:Sort _} {T2:Sort _} {T3:Sort _} {T4:Sort _} {T5:Sort _} {P0:T0 → T1 → T2 → T3 → T4 → T5 → Prop} {P1:T0 → T1 → T2 → T3 → T4 → T5 → Prop} {P2:T0 → T1 → T2 → T3 → T4 → T5 → Prop} {P3:T0 → T1 → T2 → T3 → T4 → T5 → Prop} (x0:T0) (x1:T1) (x2:T2) (x3:T3) (x4:T4) (x5:T5) (p0:P0 x0 x1 x2 x3 x4 x5) (p1:P1 x0 x1 x2 x3 x4 x5) (p2:P2 x0 x1 x2 x3 x4 x5) (p3:P3 x0 x1 x2 x3 x4 x5):∃ x0,∃ x1,∃ x2,∃ x3,∃ x4,∃ x5,P0 x0 x1 x2 x3 x4 x5 ∧ P1 x0 x1 x2 x3 x4 x5 ∧ P2 x0 x1 x2 x3 x4 x5 ∧ P3 x0 x1 x2 x3 x4 x5:=⟨x0,x1,x2,x3,x4,x5,p0,p1,p2,p3⟩
theorem i_EEEEEEEAAAAA {T0:Sort _} {T1:Sort _} {T2:Sort _} {T3:Sort _} {T4:Sort _} {T5:Sort _} {T6:Sort _} {P0:T0 → T1 → T2 → T3 → T4 → T5 → T6 → Prop} {P1:T0 → T1 → T2 → T3 → T4 → T5 → T6 → Prop} {P2:T0 → T1 → T2 → T3 → T4 → T5 → T6 → Prop} {P3:T0 → T1 → T2 → T3 → T4 → T5 → T6 → Prop} {P4:T0 → T1 → T2 → T3 → T4 → T5 → T6 → Prop} {P5:T0 → T1 → T2 → T3 → T4 → T5 → T6 → Prop} (x0:T0) (x1:T1) (x2:T2) (x3:T3) (x4:T4) (x5:T5) (x6:T6) (p0:P0 x0 x1 x2 x3 x4 x5 x6) (p1:P1 x0 x1 x2 x3 x4 x5 x6) (p2:P2 x0 x1 x2 x3 x4 x5 x6) (p3:P3 x0 x1 x2 x3 x4 x5 x6) (p4:P4 x0 x1 x2 x3 x4 x5 x6) (p5:P5 x0 x1 x2 x3 x4 x5 x6):∃ x0,∃ x1,∃ x2,∃ x3,∃ x4,∃ x5,∃ x6,P0 x0 x1 x2 x3 x4 x5 x6 ∧ P1 x0 x1 x2 x3 x4 x5 x6 ∧ P2 x0 x1 x2 x3 x4 x5 x6 ∧ P3 x0 x1 x2 x3 x4 x5 x6 ∧ P4 x0 x1 x2 x3 x4 x5 x6 ∧ P5 x0 x1 x2 x3 x4 x5 x6:=⟨x0,x1,x2,x3,x4,x5,x6,p0,p1,p2,p3,p4,p5⟩
theorem i_EEEEEEEEEAA {T0:Sort _} {T1:Sort _} {T2:Sort _} {T3:Sort _} {T4:Sort _} {T5:Sort _} {T6:Sort _} {T7:Sort _} {T8:Sort _} {P0:T0 → T1 → T2 → T3 → T4 → T5 → T6 → T7 → T8 → Prop} {P1:T0 → T1 → T2 → T3 → T4 → T5 → T6 → T7 → T8 → Prop} {P2:T0 → T1 → T2 → T3 → T4 → T5 → T6 → T7 → T8 → Prop} (x0:T0) (x1:T1) (x2:T2) (x3:T3) (x4:T4) (x5:T5) (x6:T6) (x7:T7) (x8:T8) (p0:P0 x0 x1 x2 x3 x4 x5 x6 x7 x8) (p1:P1 x0 x1 x2 x3 x4 x5 x6 x7 x8) (p2:P2 x0 x1 x2 x3 x4 x5 x6 x7 x8):∃ x0,∃ x1,∃ x2,∃ x3,∃ x4,∃ x5,∃ x6,∃ x7,∃ x8,P0 x0 x1 x2 x3 x4 x5 x6 x7 x8 ∧ P1 x0 x1 x2 x3 x4 x5 x6 x7 x8 ∧ P2 x0 x1 x2 x3 x4 x5 x6 x7 x8:=⟨x0,x1,x2,x3,x4,x5,x6,x7,x8,p0,p1,p2⟩
theorem i_EEEEEEEEEAAAAAAA {T0:Sort _} {T1:Sort _} {T2:Sort _} {T3:Sort _} {T4:Sort _} {T5:Sort _} {T6:Sort _} {T7:Sort _} {T8:Sort _} {P0:T0 → T1 → T2 → T3 → T4 → T5 → T6 → T7 → T8 → Prop} {P1:T0 → T1 → T2 → T3 → T4 → T5 → T6 → T7 → T8 → Prop} {P2:T0 → T1 → T2 → T3 → T4 → T5 → T6 → T7 → T8 → Prop} {P3:T0 → T1 → T2 → T3 → T4 → T5 → T6 → T7 → T8 → Prop} {P4:T0 → T1 → T2 → T3 → T4 → T5 → T6 → T7 → T8 → Prop} {P5:T0 → T1 → T2 → T3 → T4 → T5 → T6 → T7 → T8 → Prop} {P6:T0 → T1 → T2 → T3 → T4 → T5 → T6 → T7 → T8 → Prop} {P7:T0 → T1 → T2 → T3 → T4 → T5 → T6 → T7 → T8 → Prop} (x0:T0) (x1:T1) (x2:T2) (x3:T3) (x4:T4) (x5:T5) (x6:T6) (x7:T7) (x8:T8) (p0:P0 x0 x1 x2 x3 x4 x5 x6 x7 x8) (p1:P1 x0 x1 x2 x3 x4 x5 x6 x7 x8) (p2:P2 x0 x1 x2 x3 x4 x5 x6 x7 x8) (p3:P3 x0 x1 x2 x3 x4 x5 x6 x7 x8) (p4:P4 x0 x1 x2 x3 x4 x5 x6 x7 x8) (p5:P5 x0 x1 x2 x3 x4 x5 x6 x7 x8) (p6:P6 x0 x1 x2 x3 x4 x5 x6 x7 x8) (p7:P7 x0 x1 x2 x3 x4 x5 x6 x7 x8):∃ x0,∃ x1,∃ x2,∃ x3,∃ x4,∃ x5,∃ x6,∃ x7,∃ x8,P0 x0 x1 x2 x3 x4 x5 x6 x7 x8 ∧ P1 x0 x1 x2 x3 x4 x5 x6 x7 x8 ∧ P2 x0 x1 x2 x3 x4 x5 x6 x7 x8 ∧ P3 x0 x1 x2 x3 x4 x5 x6 x7 x8 ∧ P4 x0 x1 x2 x3 x4 x5 x6 x7 x8 ∧ P5 x0 x1 x2 x3 x4 x5 x6 x7 x8 ∧ P6 x0 x1 x2 x3 x4 x5 x6 x7 x8 ∧ P7 x0 x1 x2 x3 x4 x5 x6 x7 x8:=⟨x0,x1,x2,x3,x4,x5,x6,x7,x8,p0,p1,p2,p3,p4,p5,p6,p7⟩
theorem no_ns {α:Type _} {a:α} {G:Prop} (h:none = some a):G:=nomatch h
theorem no_sn {α:Type _} {a:α} {G:Prop} (h:some a = none):G:=nomatch h
theorem no_ft {G:Prop} (h:false = true):G:=nomatch h
end L2
namespace L2
open PySem PySem.Spec PyProof.Rows
noncomputable abbrev Key:=Sum Int Str
end L2
namespace L2
open PySem PySem.Spec PyProof.Rows
inductive V where
  | non | bl (b:Bool) | int (i:Int) | str (x:Str) | byt (b:Array UInt8) | flt (b:UInt64) | ref (a:Addr) | ty (n:String)
noncomputable def RelV:V → Value → Prop
  | .non,u=>u = Value.none
  | .bl b,u=>u = Value.bool b
  | .int i,u=>∃ t,u = Value.int i t
  | .str x,u=>∃ t,u = Value.str x t
  | .byt b,u=>∃ t,u = Value.bytes b t
  | .flt b,u=>∃ t,u = Value.float b t
  | .ref a,u=>u = Value.ref a
  | .ty n,u=>u = Value.type n
noncomputable abbrev Vals:List V → List Value → Prop:=Paired RelV
theorem Vals.length {xs:List V} {us:List Value} (r:Vals xs us):xs.length = us.length:=Paired.length r
theorem Vals.get:∀ {xs:List V} {us:List Value} {i:Nat} {x:V},Vals xs us → xs[i]? = some x → ∃ u,us[i]? = some u ∧ RelV x u
  | _,_,_,_,.nil,e=>by simp at e
  | _,_,0,_,.cons r _,e=>by simp at e; subst e; exact ⟨_,rfl,r⟩
  | _,_,i + 1,x,.cons _ t,e=>by
    refine L2.o_EA (Vals.get (i:=i) (x:=x) t (by simpa using e)) fun u h1 h2=>?_
    exact ⟨u,by simpa using h1,h2⟩
theorem Vals.set {x:V} {u:Value} (r:RelV x u):∀ {xs:List V} {us:List Value} (i:Nat),Vals xs us → Vals (xs.set i x) (us.set i u)
  | _,_,_,.nil=>.nil
  | _,_,0,.cons _ t=>.cons r t
  | _,_,i + 1,.cons q t=>.cons q (Vals.set r i t)
theorem Vals.append {xs ys:List V} {us ws:List Value} (h:Vals xs us) (s:Vals ys ws):Vals (xs ++ ys) (us ++ ws):=by
  induction h with
  | nil=>exact s
  | cons r t ih=>exact .cons r ih
noncomputable def RelO:Option V → Option Value → Prop
  | some v,some u=>RelV v u
  | none,none=>True
  | _,_=>False
noncomputable def kV:Key → V
  | .inl i=>.int i
  | .inr x=>.str x
inductive HO where
    | lst (xs:List V)
    | tup (xs:List V)
    | ins (C dx:Addr) (fs:List (Str × V))
    | own (x:Addr)
    | xd (fs:List (Str × V))
    | frz (o:Obj) (u:HO)
    | tbl (ps:Array Value)
  | tab
    | ext (φ:Heap → Prop)
noncomputable abbrev Hp:=Addr → Option HO
noncomputable def upd (H:Hp) (a:Addr) (o:HO):Hp:=fun b=>if b = a then some o else H b
theorem upd_same {H:Hp} {a:Addr} {o:HO}:upd H a o a = some o:=by unfold upd; rw [if_pos rfl]
theorem upd_ne {H:Hp} {a b:Addr} {o:HO} (h:b ≠ a):upd H a o b = H b:=by unfold upd; rw [if_neg h]
theorem ne_of_none {H:Hp} {a b:Addr} {o:HO} (h:H a = some o) (h':H b = none):a ≠ b:=by
  intro e; subst e; rw [h] at h'; cases h'
section
variable (P:Program) (w:World)
noncomputable def ObjOk (P:Program) (w:World) (H:Hp) (h:Heap) (a:Addr):HO → Prop
  | .lst xs=>xs.length ≤ sizeLine ∧ ∃ (its:List Value) (n:Nat),Vals xs its ∧ h.get? a = some { cls:=.type "list",data:=.seq its.toArray n }
  | .tup xs=>xs.length ≤ sizeLine ∧ ∃ its:List Value,Vals xs its ∧ IsTup h a its.toArray
  | .ins C dx fs=>H dx = some (.own a) ∧ fs.length ≤ 1000 ∧ dx ≠ a ∧ h.get? a = some (PySem.W.instObj C dx) ∧
      ∃ mA,h.Ns1 dx mA ∧ (∀ f,RelO (fs.lookup f) (mA f)) ∧ PySem.Within mA (fs.map (·.1))
  | .own _=>∃ o,h.get? a = some o
  | .xd fs=>∃ mA,h.Ns1 a mA ∧ ∀ f,RelO (fs.lookup f) (mA f)
  | .frz o u=>h.get? a = some o ∧ ObjOk P w H h a u
  | .tbl ps=>h.get? a = some { cls:=.none,data:=.fields ps }
  | .tab=>∃ ps:Array Value,h.get? a = some (PySem.W.tabObj ps) ∧ TriplesOk ps.toList ∧ ∀ pos c,codeAmong pos ps.toList = some c → ∃ c' oc vs q t φ,c = Value.ref c' ∧ H c' = some (.frz oc φ) ∧ oc.data = .fields vs ∧ vs[1]? = some (Value.str q t)
  | .ext φ=>φ h ∧ (∃ o,h.get? a = some o) ∧ ∀ h1 h2:Heap,φ h1 → (∀ o,h1.get? a = some o → h2.get? a = some o) → φ h2
noncomputable def HOk (H:Hp) (h:Heap):Prop:=∀ a o,H a = some o → ObjOk P w H h a o
end
section
variable {P:Program} {w:World} {H H':Hp} {h h':Heap} {a:Addr} {o:HO}
theorem ObjOk.lt (x:ObjOk P w H h a o):a < h.objs.size:=by
  cases o with
  | lst xs=>obtain ⟨_,_,_,_,e⟩:=x; exact Heap.lt_size e
  | tup xs=>obtain ⟨_,_,_,p⟩:=x; exact p.lt
  | ins C dx fs=>obtain ⟨_,_,_,e,_⟩:=x; exact Heap.lt_size e
  | own y=>obtain ⟨_,e⟩:=x; exact Heap.lt_size e
  | xd fs=>obtain ⟨_,⟨_,_,_,e,_⟩,_⟩:=x; exact Heap.lt_size e
  | frz ob u=>obtain ⟨e,_⟩:=x; exact Heap.lt_size e
  | tbl ps=>exact Heap.lt_size (show h.get? a = some _ from x)
  | tab=>obtain ⟨_,e,_⟩:=x; exact Heap.lt_size e
  | ext φ=>obtain ⟨_,⟨_,e⟩,_⟩:=x; exact Heap.lt_size e
theorem ObjOk.stay (x:ObjOk P w H h a o) (k:∀ b u,(b = a ∨ H b = some (.own a)) → h.get? b = some u → h'.get? b = some u)
    (ho:∀ b,H b = some (.own a) → H' b = some (.own a)) (ht:∀ b xs,H b = some (.tup xs) → H' b = some (.tup xs)) (hz:∀ b o u vs,o.data = .fields vs → H b = some (.frz o u) → H' b = some (.frz o u):=by exact fun _ _ _ _ _ q=>q):ObjOk P w H' h' a o:=by
  induction o with
  | lst xs=>obtain ⟨z,its,n,r,e⟩:=x; exact ⟨z,its,n,r,k _ _ (.inl rfl) e⟩
  | tup xs=>obtain ⟨z,its,r,ob,e,c⟩:=x; exact ⟨z,its,r,ob,k _ _ (.inl rfl) e,c⟩
  | ins C dx fs=>
    obtain ⟨d,z,ne,e,mA,⟨od,es,ep,e2,c⟩,r⟩:=x
    exact ⟨ho _ d,z,ne,k _ _ (.inl rfl) e,mA,⟨od,es,ep,k _ _ (.inr d) e2,c⟩,r⟩
  | own y=>obtain ⟨ob,e⟩:=x; exact ⟨ob,k _ _ (.inl rfl) e⟩
  | xd fs=>obtain ⟨mA,⟨od,es,ep,e,c⟩,r⟩:=x; exact ⟨mA,⟨od,es,ep,k _ _ (.inl rfl) e,c⟩,r⟩
  | frz ob u ih=>obtain ⟨e,q⟩:=x; exact ⟨k _ _ (.inl rfl) e,ih q⟩
  | tbl ps=>
    have e:h.get? a = some { cls:=.none,data:=.fields ps }:=x
    show h'.get? a = some { cls:=.none,data:=.fields ps }
    exact k a _ (.inl rfl) e
  | ext φ=>obtain ⟨p,⟨o,e⟩,st⟩:=x; exact ⟨st _ _ p fun o q=>k _ _ (.inl rfl) q,⟨o,k _ _ (.inl rfl) e⟩,st⟩
  | tab=>
    refine L2.o_EAA (x) fun ps e tr co=>?_
    exact ⟨ps,k _ _ (.inl rfl) e,tr,fun pos c z=>let ⟨c',oc,vs,q,t,φ,h1,h2,h3,h4⟩:=co pos c z; ⟨c',oc,vs,q,t,φ,h1,hz _ _ _ _ h3 h2,h3,h4⟩⟩
theorem HOk.lt (x:HOk P w H h) (e:H a = some o):a < h.objs.size:=(x a o e).lt
theorem HOk.fresh (x:HOk P w H h) (e:h.objs.size ≤ a):H a = none:=by
  cases q:H a with
  | none=>rfl
  | some u=>exact absurd (Nat.lt_of_lt_of_le (x.lt q) e) (Nat.lt_irrefl _)
theorem HOk.kept (x:HOk P w H h) (k:∀ b u,h.get? b = some u → h'.get? b = some u):HOk P w H h':=fun a o e=>
  (x a o e).stay (fun b u _ q=>k b u q) (fun _ q=>q) fun _ _ q=>q
theorem HOk.laid (x:HOk P w H h) (k:∀ b u,h.get? b = some u → h'.get? b = some u) (hp:h.objs.size ≤ a) (new:ObjOk P w (upd H a o) h' a o):HOk P w (upd H a o) h':=fun b u e=>by
  have hn:=x.fresh hp
  by_cases hb:b = a
  · subst hb; rw [upd_same] at e; cases e; exact new
  · rw [upd_ne hb] at e
    exact (x b u e).stay (fun c v _ q=>k c v q) (fun c q=>by rw [upd_ne (ne_of_none q hn)]; exact q) (fun c xs q=>by rw [upd_ne (ne_of_none q hn)]; exact q) fun c ob xs _ _ q=>by rw [upd_ne (ne_of_none q hn)]; exact q
end
noncomputable def Rd (H:Hp) (a:Addr) (u:HO):Prop:=H a = some u ∨ ∃ o,H a = some (.frz o u)
theorem Rd.ok {P:Program} {w:World} {H:Hp} {h:Heap} {a:Addr} {u:HO} (r:Rd H a u) (x:HOk P w H h):ObjOk P w H h a u:=by
  rcases r with r | ⟨o,r⟩
  · exact x a u r
  · refine L2.o_A (x a _ r) fun _ q=>?_
    exact q
noncomputable def Mut:Option HO → Prop
  | some (.lst _)=>True
  | some (.ins _ _ _)=>True
  | some (.ext _)=>True
  | _=>False
section
variable {P:Program} {w:World} {H:Hp} {h h':Heap} {x e:Addr} {o':HO}
theorem HOk.write (ok:HOk P w H h) (mu:Mut (H x)) (he:e = x ∨ H e = some (.own x)) (k:∀ b u,b ≠ e → h.get? b = some u → h'.get? b = some u) (heo:∃ u,h'.get? e = some u)
    (new:ObjOk P w (upd H x o') h' x o'):HOk P w (upd H x o') h':=fun b u q=>by
  have nown:∀ c y,H c = some (.own y) → c ≠ x:=fun c y r z=>by subst z; rw [r] at mu; exact mu
  have ntup:∀ c xs,H c = some (.tup xs) → c ≠ x:=fun c xs r z=>by subst z; rw [r] at mu; exact mu
  have nfrz:∀ c ob xs,H c = some (.frz ob xs) → c ≠ x:=fun c ob xs r z=>by subst z; rw [r] at mu; exact mu
  by_cases hb:b = x
  · subst hb; rw [upd_same] at q; cases q; exact new
  · rw [upd_ne hb] at q
    by_cases hbe:b = e
    · have q':H b = some (.own x):=by
        rcases he with z | z
        · exact absurd (hbe.trans z) hb
        · rw [hbe]; exact z
      rw [q] at q'; cases q'
      refine L2.o_E (heo) fun v hv=>?_
      exact ⟨v,by rw [hbe]; exact hv⟩
    · refine (ok b u q).stay (fun c v hc r=>k c v ?_ r) (fun c r=>by rw [upd_ne (nown c b r)]; exact r) (fun c xs r=>by rw [upd_ne (ntup c xs r)]; exact r) fun c ob xs _ _ r=>by rw [upd_ne (nfrz c ob xs r)]; exact r
      rcases hc with rfl | hc
      · exact hbe
      · rintro rfl
        rcases he with z | z
        · exact nown c b hc z
        · rw [hc] at z; cases z; exact hb rfl
end
structure Un (fs ex:List Addr) (H H':Hp) (h h':Heap):Prop where
  keep:∀ b o,h.get? b = some o → H b = none → b ∉ fs → b ∉ ex → h'.get? b = some o
  slot:∀ b o,h.get? b = some o → H b = none → b ∈ fs → b ∉ ex → ∃ sl,h'.get? b = some { o with slots:=sl }
  free:∀ b o,h.get? b = some o → H b = none → b ∉ ex → H' b = none
  there:∀ b o,h.get? b = some o → b ∉ ex → ∃ o',h'.get? b = some o'
  tups:∀ b xs,H b = some (.tup xs) → H' b = some (.tup xs)
  frzs:∀ b o u,H b = some (.frz o u) → H' b = some (.frz o u)
  tbls:∀ b ps,H b = some (.tbl ps) → ∃ more,H' b = some (.tbl (ps ++ more))
  tabs:∀ b,H b = some .tab → H' b = some .tab
section
variable {fs fs' ex ex':List Addr} {H H1 H2:Hp} {h h1 h2 h':Heap} {a x e:Addr} {o:HO}
theorem Un.any (u:Un fs ex H H1 h h1) {b:Addr} {ob:Obj} (q:h.get? b = some ob) (n:H b = none) (hx:b ∉ ex):∃ sl,h1.get? b = some { ob with slots:=sl }:=by
  by_cases hb:b ∈ fs
  · exact u.slot b ob q n hb hx
  · exact ⟨ob.slots,u.keep b ob q n hb hx⟩
theorem Un.kept (k:∀ b u,h.get? b = some u → h'.get? b = some u):Un fs ex H H h h':=
  ⟨fun b ob q _ _ _=>k b ob q,fun b ob q _ _ _=>⟨ob.slots,k b ob q⟩,fun _ _ _ n _=>n,fun b ob q _=>⟨ob,k b ob q⟩,fun _ _ q=>q,fun _ _ _ q=>q,fun _ ps q=>⟨#[],by rw [q]; simp⟩,fun _ q=>q⟩
theorem Un.refl:Un fs ex H H h h:=Un.kept fun _ _ q=>q
theorem Un.laid (k:∀ b u,h.get? b = some u → h'.get? b = some u) (hp:h.objs.size ≤ a) (hn:H a = none):Un fs ex H (upd H a o) h h' where
  keep:=fun b u q _ _ _=>k b u q
  slot:=fun b u q _ _ _=>⟨u.slots,k b u q⟩
  free:=fun b u q n _=>by rw [upd_ne (Nat.ne_of_lt (Nat.lt_of_lt_of_le (Heap.lt_size q) hp))]; exact n
  there:=fun b u q _=>⟨u,k b u q⟩
  tups:=fun b xs q=>by rw [upd_ne (ne_of_none q hn)]; exact q
  frzs:=fun b u xs q=>by rw [upd_ne (ne_of_none q hn)]; exact q
  tbls:=fun b ps q=>⟨#[],by rw [upd_ne (ne_of_none q hn),q]; simp⟩
  tabs:=fun b q=>by rw [upd_ne (ne_of_none q hn)]; exact q
theorem Un.write (mu:Mut (H x)) (he:e = x ∨ H e = some (.own x)) (k:∀ b u,b ≠ e → h.get? b = some u → h'.get? b = some u) (heo:∃ u,h'.get? e = some u):Un fs ex H (upd H x o) h h':=by
  have hx:∀ b,H b = none → b ≠ x:=fun b n z=>by subst z; rw [n] at mu; exact mu
  have hb:∀ b,H b = none → b ≠ e:=fun b n z=>by
    subst z
    rcases he with r | r
    · exact hx b n r
    · rw [n] at r; cases r
  have hm:∀ b u,H b = some u → ¬ Mut (some u) → b ≠ x:=fun b u q nm z=>by subst z; rw [q] at mu; exact nm mu
  refine ⟨fun b u q n _ _=>k b u (hb b n) q,fun b u q n _ _=>⟨u.slots,k b u (hb b n) q⟩,fun b u q n _=>by rw [upd_ne (hx b n)]; exact n,fun b u q _=>?_,
    fun b xs q=>by rw [upd_ne (hm b _ q fun z=>z)]; exact q,fun b u xs q=>by rw [upd_ne (hm b _ q fun z=>z)]; exact q,fun b ps q=>⟨#[],by rw [upd_ne (hm b _ q fun z=>z),q]; simp⟩,fun b q=>by rw [upd_ne (hm b _ q fun z=>z)]; exact q⟩
  by_cases hbe:b = e
  · subst hbe; exact heo
  · exact ⟨u,k b u hbe q⟩
end
noncomputable def trk (h:Heap) (H:Hp):List Addr:=(List.range h.objs.size).filter fun a=>(H a).isSome
noncomputable def hidT (h:Heap) (H:Hp):Heap:=PySem.W.hideAll h (trk h H)
theorem hidT_size (h:Heap) (H:Hp):(hidT h H).objs.size = h.objs.size:=PySem.W.hideAll_size _ _
theorem hidT_get {h:Heap} {H:Hp} {b:Addr} {o:Obj} (e:h.get? b = some o) (n:H b = none):(hidT h H).get? b = some o:=
  PySem.W.hideAll_get _ e fun hm=>by
    have q:(H b).isSome = true:=(List.mem_filter.mp hm).2
    rw [n] at q; simp at q
theorem of_hidT {h:Heap} {H:Hp} {b:Addr} {o:Obj} (e:(hidT h H).get? b = some o):h.get? b = some o ∧ H b = none:=by
  have e':h.get? b = some o:=PySem.W.of_hideAll (trk h H) e
  refine ⟨e',?_⟩
  cases q:H b with
  | none=>rfl
  | some x=>
    have hm:b ∈ trk h H:=List.mem_filter.mpr ⟨List.mem_range.mpr (Heap.lt_size e'),by simp [q]⟩
    have z:(hidT h H).get? b = none:=PySem.W.hideAll_none (trk h H) hm
    rw [z] at e; cases e
noncomputable def allNews (g h:Heap) (L:Addr):List (Addr × Obj):=(List.range h.objs.size).filterMap fun a=>if a = L ∨ (g.get? a).isSome = true then none else (h.get? a).map fun o=>(a,o)
noncomputable def rest (g h:Heap) (L d:Addr):List (Addr × Obj):=(allNews g h L).filter fun p=>decide (p.1 ≠ d)
end L2
namespace L2
open PySem PySem.Spec PyProof.Rows
structure Mod (K:PySem.W.Frag) (mg:Str → Option Value) (base:Heap):Prop where
  kin:K.In base
  glob:base.Ns mainGlobals mg
  blt:∃ mb,base.Ns builtinsNs mb ∧ ∀ x:Str,x ≠ "__name__" → mb x = bootBuiltins x
  nolimit:base.NoLimit
noncomputable def lamNames (P:Program):List Str:=((recsOf P).filter fun d=>(freeInTheComprehensionsStmts d.body).isNone).map (·.name)
noncomputable def TabsOk (P:Program) (K:PySem.W.Frag) (mg:Str → Option Value) (base:Heap) (H:Hp):Prop:=∀ x c p,x ∈ lamNames P → PySem.W.tabIn K x = some (c,p) → H p = some .tab ∧ PySem.W.CodeHd base c p ∧ base.BuiltinsAt mg p
set_option genInjectivity false in
structure Cx where
  prog:Program
  w:World
  K:PySem.W.Frag
  mg:Str → Option Value
  base:Heap
  A:Around
  N:List Str
  s₀:Shared
  H₀:Hp
  env:Env
  outer:List Env
  stack:List Env
  ex:List Addr
  fn:Str → Bool
  calm:Bool
  pn:List (Addr × Obj)
  xe:Value → Shared → Prop
noncomputable def frs (l:List Env):List Addr:=l.filterMap (·.frame)
noncomputable abbrev Cx.fs (X:Cx):List Addr:=frs X.outer
noncomputable def Vis (sc:Scope) (x:Str):Prop:=sc.names.lookup x = some .local ∨ sc.names.lookup x = some .cell ∨ sc.names.lookup x = some .free
noncomputable def Loc (sc:Scope) (x:Str):Prop:=sc.names.lookup x = some .local ∨ sc.names.lookup x = some .cell
noncomputable def Look (env:Env) (h:Heap) (m:Str → Option Value) (x:Str) (u:Value):Prop:=
  (env.kindOf x = some .local ∧ m x = some u) ∨ ((env.kindOf x = some .cell ∨ env.kindOf x = some .free) ∧ ∃ c,env.cells.lookup x = some c ∧ h.IsCell c (some u))
structure Cx.Ok (X:Cx):Prop where
  mod:Mod X.K X.mg X.base
  kind:X.env.scope.kind = .function
  glob:X.env.globals = mainGlobals
  blt:X.env.builtins = builtinsNs
  above:X.s₀.heap.objs.size ≤ X.env.locals
  inj:∀ x y c,X.env.cells.lookup x = some c → X.env.cells.lookup y = some c → x = y
  has:∀ x,(X.env.kindOf x = some .cell ∨ X.env.kindOf x = some .free) → ∃ c,X.env.cells.lookup x = some c
  cab:∀ x c,X.fn x = true → X.env.cells.lookup x = some c → X.s₀.heap.objs.size ≤ c
  hd:X.calm = true → X.A.handled = none
  frames:X.A.frames = some X.stack
  stk:X.stack = X.outer ∨ (X.stack = X.env :: X.outer ∧ X.env.frame = some X.env.locals)
  exf:∀ b ∈ X.ex,b ≠ X.env.locals ∧ ∀ x c,X.env.cells.lookup x = some c → c ≠ b
  bs:∀ b o,X.base.get? b = some o → X.s₀.heap.get? b = some o ∧ X.H₀ b = none
  bsz:X.base.objs.size ≤ X.s₀.heap.objs.size
  noex:∀ b o,X.base.get? b = some o → b ∉ X.ex
  exfs:∀ b ∈ X.ex,b ∉ X.fs
  funs:X.s₀.heap.FunFrames X.base X.outer
  frf:∀ b ∈ X.fs,X.H₀ b = none
  tabs:TabsOk X.prog X.K X.mg X.base X.H₀
structure Inv (X:Cx) (pins:List (Addr × Obj)) (σ:List (Option V)) (H:Hp) (s:Shared):Prop where
  ok:X.Ok
  os:s.os = X.s₀.os
  bare:AllBare s.gens
  base:Un X.fs X.ex X.H₀ H X.s₀.heap s.heap
  loc:∃ m,s.heap.Ns X.env.locals m ∧ ∀ (i:Nat) (x:Str) (v:V),X.N[i]? = some x → σ[i]? = some (some v) → Vis X.env.scope x → ∃ u,RelV v u ∧ Look X.env s.heap m x u
  cell:∀ x c,X.env.cells.lookup x = some c → ∃ v,s.heap.IsCell c v
  free:H X.env.locals = none
  freeC:∀ x c,X.env.cells.lookup x = some c → H c = none ∨ (X.fn x = false ∧ ∃ o u,H c = some (.frz o u))
  pin:∀ p ∈ X.pn ++ pins,s.heap.get? p.1 = some p.2 ∧ H p.1 = none ∧ p.1 ≠ X.env.locals ∧ p.1 ∉ X.fs ∧ ∀ v,p.2.data ≠ .cell v
  hok:HOk X.prog X.w H s.heap
  len:σ.length = X.N.length
section
variable {X:Cx} {pins:List (Addr × Obj)} {σ:List (Option V)} {H H':Hp} {s:Shared} {h':Heap}
theorem Cx.Ok.nofr (ok:X.Ok) {b:Addr} {o:Obj} (e:X.base.get? b = some o):b ∉ X.fs:=fun hb=>by
  have:=(ok.funs.mem hb).1
  rw [e] at this; cases this
theorem Inv.bs (I:Inv X pins σ H s):∀ b o,X.base.get? b = some o → s.heap.get? b = some o ∧ H b = none:=fun b o e=>
  ⟨I.base.keep b o (I.ok.bs b o e).1 (I.ok.bs b o e).2 (I.ok.nofr e) (I.ok.noex b o e),I.base.free b o (I.ok.bs b o e).1 (I.ok.bs b o e).2 (I.ok.noex b o e)⟩
theorem Inv.bk (I:Inv X pins σ H s):∀ b o,X.base.get? b = some o → s.heap.get? b = some o:=fun b o e=>(I.bs b o e).1
theorem Inv.mod (I:Inv X pins σ H s):Mod X.K X.mg X.base:=I.ok.mod
theorem Inv.kIn (I:Inv X pins σ H s):X.K.In s.heap:=I.ok.mod.kin.keeps I.bk
theorem Inv.lt (I:Inv X pins σ H s):X.env.locals < s.heap.objs.size:=let ⟨_,hn,_⟩:=I.loc; hn.lt
theorem Inv.sz (I:Inv X pins σ H s):X.s₀.heap.objs.size ≤ s.heap.objs.size:=Nat.le_trans I.ok.above (Nat.le_of_lt I.lt)
theorem Inv.nofs (I:Inv X pins σ H s) {a:Addr} (h:s.heap.objs.size ≤ a):a ∉ X.fs:=fun hb=>by
  refine L2.o_AEA (I.ok.funs.mem hb) fun _ o ho _=>?_
  exact absurd (Nat.lt_of_lt_of_le (Heap.lt_size ho) (Nat.le_trans I.sz h)) (Nat.lt_irrefl _)
theorem Inv.cne (I:Inv X pins σ H s):∀ x c,X.env.cells.lookup x = some c → c ≠ X.env.locals:=fun x c e z=>by
  refine L2.o_EEA (I.cell x c e) fun v o ho hd=>?_
  obtain ⟨m,⟨o',es,ep,ho',hd',_⟩,_⟩:=I.loc
  rw [z,ho'] at ho; cases ho; rw [hd'] at hd; cases hd
theorem Inv.funs (I:Inv X pins σ H s):s.heap.FunFrames X.base X.outer:=by
  have all:∀ (l:List Env),(∀ b ∈ frs l,b ∈ X.fs) → X.s₀.heap.FunFrames X.base l → s.heap.FunFrames X.base l:=by
    intro l
    induction l with
    | nil=>intro _ _; trivial
    | cons env r ih=>
      intro hs hl
      obtain ⟨hk,⟨L,o,hf,hn,ho,hd⟩,hr⟩:=hl
      have hL:L ∈ X.fs:=hs L (by unfold frs; rw [List.filterMap_cons,hf]; exact List.mem_cons_self)
      refine L2.o_E (I.base.slot L o ho (I.ok.frf L hL) hL fun z=>I.ok.exfs L z hL) fun sl e=>?_
      exact ⟨hk,⟨L,_,hf,hn,e,hd⟩,ih (fun b hb=>hs b (by unfold frs; rw [List.filterMap_cons,hf]; exact List.mem_cons_of_mem _ hb)) hr⟩
  exact all X.outer (fun _ hb=>hb) I.ok.funs
theorem Inv.stack (I:Inv X pins σ H s):s.heap.FunFrames X.base X.stack:=by
  rcases I.ok.stk with e | ⟨e,hf⟩
  · rw [e]; exact I.funs
  · rw [e]
    refine L2.o_EA (I.loc) fun m hn _=>?_
    refine .cons (by rw [I.ok.kind]; decide) hf hn ?_ I.funs
    exact Heap.get?_none_of_le (Nat.le_trans I.ok.bsz I.ok.above)
theorem Inv.stkSub (I:Inv X pins σ H s):∀ b ∈ frs X.stack,b ∈ X.env.locals :: X.fs:=fun b hb=>by
  rcases I.ok.stk with e | ⟨e,hf⟩
  · rw [e] at hb; exact List.mem_cons_of_mem _ hb
  · rw [e] at hb
    unfold frs at hb
    rw [List.filterMap_cons,hf] at hb
    exact hb
theorem Inv.stkFree (I:Inv X pins σ H s):∀ b ∈ frs X.stack,H b = none:=fun b hb=>by
  rcases List.mem_cons.mp (I.stkSub b hb) with e | hb
  · rw [e]; exact I.free
  · refine L2.o_AEA (I.ok.funs.mem hb) fun _ o ho _=>?_
    exact I.base.free b o ho (I.ok.frf b hb) fun z=>I.ok.exfs b z hb
theorem Inv.step {g':Array GenState} {t':Nat} {d':Drawn} {ch:List Addr} (I:Inv X pins σ H s)
    (hch:∀ b ∈ ch,(b ∈ X.ex ∨ X.s₀.heap.objs.size ≤ b) ∧ b ≠ X.env.locals ∧ (∀ x c,X.env.cells.lookup x = some c → c ≠ b) ∧ ∀ p ∈ X.pn ++ pins,p.1 ≠ b)
    (keep:∀ b o,b ≠ X.env.locals → b ∉ X.fs → b ∉ ch → s.heap.get? b = some o → H b = none → h'.get? b = some o)
    (slot:∀ b o,b ≠ X.env.locals → b ∈ X.fs → b ∉ ch → s.heap.get? b = some o → H b = none → ∃ sl,h'.get? b = some { o with slots:=sl }) (free:∀ b o,b ∉ ch → s.heap.get? b = some o → H b = none → H' b = none)
    (there:∀ b o,b ∉ ch → s.heap.get? b = some o → ∃ o',h'.get? b = some o')
    (tups:∀ b xs,H b = some (.tup xs) → H' b = some (.tup xs)) (frzs:∀ b o u,H b = some (.frz o u) → H' b = some (.frz o u)) (tbls:∀ b ps,H b = some (.tbl ps) → ∃ more,H' b = some (.tbl (ps ++ more))) (tabs:∀ b,H b = some .tab → H' b = some .tab)
    (ns:∀ m,s.heap.Ns X.env.locals m → h'.Ns X.env.locals m) (hok:HOk X.prog X.w H' h') (hg:AllBare g') :
    Inv X pins σ H' { s with heap:=h',gens:=g',drawn:=d',toks:=t' }:=by
  have neL:∀ b o,X.s₀.heap.get? b = some o → b ≠ X.env.locals:=fun b o e=>Nat.ne_of_lt (Nat.lt_of_lt_of_le (Heap.lt_size e) I.ok.above)
  have neC:∀ b o,X.s₀.heap.get? b = some o → b ∉ X.ex → b ∉ ch:=fun b o e hx hb=>by
    rcases (hch b hb).1 with z | z
    · exact hx z
    · exact absurd (Nat.lt_of_lt_of_le (Heap.lt_size e) z) (Nat.lt_irrefl _)
  have cellK:∀ x c,X.env.cells.lookup x = some c → ∀ v,s.heap.IsCell c v → h'.IsCell c v:=fun x c e v zpat=>by
    refine L2.o_EA (zpat) fun o ho hd=>?_
    have nch:c ∉ ch:=fun z=>(hch c z).2.2.1 x c e rfl
    rcases I.freeC x c e with fc | ⟨_,ob,ub,fc⟩
    · by_cases hc:c ∈ X.fs
      · refine L2.o_E (slot c o (I.cne x c e) hc nch ho fc) fun sl q=>?_
        exact ⟨_,q,hd⟩
      · exact ⟨o,keep c o (I.cne x c e) hc nch ho fc,hd⟩
    · have q1:=(I.hok c _ fc).1
      have q2:=(hok c _ (frzs c ob ub fc)).1
      rw [ho] at q1
      obtain rfl:=Option.some.inj q1
      exact ⟨o,q2,hd⟩
  refine ⟨I.ok,I.os,hg,⟨fun b o e n hb hx=>?_,fun b o e n hb hx=>?_,fun b o e n hx=>?_,fun b o e hx=>?_,fun b xs e=>tups b xs (I.base.tups b xs e),fun b o xs e=>frzs b o xs (I.base.frzs b o xs e),fun b ps e=>?_,fun b e=>tabs b (I.base.tabs b e)⟩,?_,fun x c e=>?_,?_,fun x c e=>?_,fun p hp=>?_,hok,I.len⟩
  · exact keep b o (neL b o e) hb (neC b o e hx) (I.base.keep b o e n hb hx) (I.base.free b o e n hx)
  · refine L2.o_E (I.base.slot b o e n hb hx) fun sl e1=>?_
    refine L2.o_E (slot b _ (neL b o e) hb (neC b o e hx) e1 (I.base.free b o e n hx)) fun sl' e2=>?_
    exact ⟨sl',e2⟩
  · refine L2.o_E (I.base.there b o e hx) fun o' e1=>?_
    exact free b o' (neC b o e hx) e1 (I.base.free b o e n hx)
  · refine L2.o_E (I.base.there b o e hx) fun o' e1=>?_
    exact there b o' (neC b o e hx) e1
  · refine L2.o_E (I.base.tbls b ps e) fun m1 e1=>?_
    refine L2.o_E (tbls b _ e1) fun m2 e2=>?_
    exact ⟨m1 ++ m2,by rw [e2,Array.append_assoc]⟩
  · refine L2.o_EA (I.loc) fun m hn hl=>?_
    refine ⟨m,ns m hn,fun i x v e1 e2 e3=>?_⟩
    refine L2.o_EA (hl i x v e1 e2 e3) fun u r l=>?_
    refine ⟨u,r,?_⟩
    rcases l with l | ⟨k,c,e,z⟩
    · exact .inl l
    · exact .inr ⟨k,c,e,cellK x c e _ z⟩
  · refine L2.o_E (I.cell x c e) fun v z=>?_
    exact ⟨v,cellK x c e v z⟩
  · obtain ⟨m,⟨o,_,_,ho,_⟩,_⟩:=I.loc
    exact free _ o (fun z=>(hch _ z).2.1 rfl) ho I.free
  · refine L2.o_EEA (I.cell x c e) fun v o ho hd=>?_
    rcases I.freeC x c e with fc | ⟨hfn,ob,ub,fc⟩
    · exact .inl (free c o (fun z=>(hch c z).2.2.1 x c e rfl) ho fc)
    · exact .inr ⟨hfn,ob,ub,frzs c ob ub fc⟩
  · refine L2.o_AAAA (I.pin p hp) fun e n ne nf d=>?_
    have nch:p.1 ∉ ch:=fun z=>(hch p.1 z).2.2.2 p hp rfl
    exact ⟨keep p.1 p.2 ne nf nch e n,free p.1 p.2 nch e n,ne,nf,d⟩
theorem Inv.un {t':Nat} (I:Inv X pins σ H s) (u:Un X.fs [] H H' s.heap h') (hok:HOk X.prog X.w H' h'):Inv X pins σ H' { s with heap:=h',toks:=t' }:=by
  obtain ⟨m,⟨o,es,ep,ho,r⟩,_⟩:=id I.loc
  refine L2.o_E (u.any ho I.free (by simp)) fun sl hL=>?_
  exact I.step (g':=s.gens) (d':=s.drawn) (ch:=[]) (fun _ z=>nomatch z) (fun b o _ hb _ e n=>u.keep b o e n hb (by simp)) (fun b o _ hb _ e n=>u.slot b o e n hb (by simp)) (fun b o _ e n=>u.free b o e n (by simp)) (fun b o _ e=>u.there b o e (by simp)) u.tups u.frzs u.tbls u.tabs (fun m' hm=>by
    refine L2.o_EEEA (hm) fun o' es' ep' ho' r'=>?_
    rw [ho] at ho'; cases ho'
    exact ⟨_,es',ep',hL,r'⟩) hok I.bare
theorem Inv.call {g':Array GenState} {t':Nat} {d':Drawn} {ch:List Addr} (I:Inv X pins σ H s) (u:Un (frs X.stack) ch H H' s.heap h') (hok:HOk X.prog X.w H' h') (hg:AllBare g')
    (hch:∀ b ∈ ch,(b ∈ X.ex ∨ X.s₀.heap.objs.size ≤ b) ∧ b ≠ X.env.locals ∧ (∀ x c,X.env.cells.lookup x = some c → c ≠ b) ∧ ∀ p ∈ X.pn ++ pins,p.1 ≠ b) :
    Inv X pins σ H' { s with heap:=h',gens:=g',drawn:=d',toks:=t' }:=by
  obtain ⟨m,⟨o,es,ep,ho,r⟩,_⟩:=id I.loc
  refine L2.o_E (u.any ho I.free fun z=>(hch _ z).2.1 rfl) fun sl hL=>?_
  exact I.step (ch:=ch) hch (fun b o hL hb hc e n=>u.keep b o e n (fun z=>(List.mem_cons.mp (I.stkSub b z)).elim hL hb) hc) (fun b o _ _ hc e n=>u.any e n hc) (fun b o hc e n=>u.free b o e n hc) (fun b o hc e=>u.there b o e hc) u.tups u.frzs u.tbls u.tabs (fun m' hm=>by
    refine L2.o_EEEA (hm) fun o' es' ep' ho' r'=>?_
    rw [ho] at ho'; cases ho'
    exact ⟨_,es',ep',hL,r'⟩) hok hg
theorem Inv.turned {t':Nat} {it:Addr} (I:Inv X pins σ H s) (k:∀ b o,b ≠ it → s.heap.get? b = some o → h'.get? b = some o) (hn:H it = none) (hL:it ≠ X.env.locals)
    (h1:it ∈ X.ex ∨ X.s₀.heap.objs.size ≤ it) (h2:∀ x c,X.env.cells.lookup x = some c → c ≠ it) (h3:∀ p ∈ X.pn ++ pins,p.1 ≠ it):Inv X pins σ H { s with heap:=h',toks:=t' }:=by
  have nit:∀ b u,H b = some u → b ≠ it:=fun b u e z=>by rw [z,hn] at e; cases e
  refine I.step (g':=s.gens) (d':=s.drawn) (ch:=[it]) (fun b hb=>?_) (fun b o _ _ hc e _=>k b o (fun z=>hc (by simp [z])) e) (fun b o _ _ hc e _=>⟨o.slots,k b o (fun z=>hc (by simp [z])) e⟩) (fun _ _ _ _ n=>n)
    (fun b o hc e=>⟨o,k b o (fun z=>hc (by simp [z])) e⟩) (fun _ _ e=>e) (fun _ _ _ e=>e) (fun b ps e=>⟨#[],by rw [e]; simp⟩) (fun _ e=>e) (fun m hm=>?_) (fun b u e=>?_) I.bare
  · have e:b = it:=by simpa using hb
    subst e
    exact ⟨h1,hL,h2,h3⟩
  · refine L2.o_EEEA (hm) fun o es ep ho r=>?_
    exact L2.i_EEEA (o) (es) (ep) (k _ o (Ne.symm hL) ho) (r)
  · refine (I.hok b u e).stay (fun c v hc q=>k c v ?_ q) (fun _ q=>q) fun _ _ q=>q
    rcases hc with z | z
    · rw [z]; exact nit b u e
    · exact nit c _ z
theorem Inv.tok (I:Inv X pins σ H s) (t:Nat):Inv X pins σ H { s with toks:=t }:=I.un (h':=s.heap) (t':=t) Un.refl I.hok
theorem Inv.kept {t':Nat} (I:Inv X pins σ H s) (k:∀ b u,s.heap.get? b = some u → h'.get? b = some u):Inv X pins σ H { s with heap:=h',toks:=t' }:=I.un (Un.kept k) (I.hok.kept k)
theorem Inv.laid {a:Addr} {o:HO} {t':Nat} (I:Inv X pins σ H s) (k:∀ b u,s.heap.get? b = some u → h'.get? b = some u) (hp:s.heap.objs.size ≤ a) (new:ObjOk X.prog X.w (upd H a o) h' a o) :
    Inv X pins σ (upd H a o) { s with heap:=h',toks:=t' }:=I.un (Un.laid k hp (I.hok.fresh hp)) (I.hok.laid k hp new)
theorem Inv.write {x e:Addr} {o:HO} {t':Nat} (I:Inv X pins σ H s) (mu:Mut (H x)) (he:e = x ∨ H e = some (.own x)) (k:∀ b u,b ≠ e → s.heap.get? b = some u → h'.get? b = some u) (heo:∃ u,h'.get? e = some u)
    (new:ObjOk X.prog X.w (upd H x o) h' x o):Inv X pins σ (upd H x o) { s with heap:=h',toks:=t' }:=I.un (Un.write mu he k heo) (I.hok.write mu he k heo new)
theorem Inv.pins_of {pins':List (Addr × Obj)} (I:Inv X pins σ H s) (h:∀ p ∈ pins',s.heap.get? p.1 = some p.2 ∧ H p.1 = none ∧ p.1 ≠ X.env.locals ∧ p.1 ∉ X.fs ∧ ∀ v,p.2.data ≠ .cell v):Inv X pins' σ H s:=
  ⟨I.ok,I.os,I.bare,I.base,I.loc,I.cell,I.free,I.freeC,fun p hp=>(List.mem_append.mp hp).elim (fun z=>I.pin p (List.mem_append_left _ z)) (h p),I.hok,I.len⟩
theorem nodup_ix {N:List Str} (hN:N.Nodup) {i j:Nat} {x:Str} (a:N[i]? = some x) (b:N[j]? = some x):i = j:=by
  refine L2.o_E (List.getElem?_eq_some_iff.mp a) fun h1 e1=>?_
  refine L2.o_E (List.getElem?_eq_some_iff.mp b) fun h2 e2=>?_
  exact (List.getElem_inj hN).mp (e1.trans e2.symm)
theorem store_ok2 {M:Model} {A:Around} {E:Value → Shared → Prop} {i:Nat} {x:Str} {v:V} {u:Value} {Q:Unit → Shared → Prop} (I:Inv X pins σ H s) (hN:X.N.Nodup) (hi:X.N[i]? = some x) (hx:Loc X.env.scope x) (r:RelV v u)
    (h:∀ s',Inv X pins (σ.set i (some v)) H s' → (∃ a,Heap.SameBut a s.heap s'.heap ∧ (a = X.env.locals ∨ X.env.cells.lookup x = some a)) → Q () s') (hf:X.fn x = true ∨ X.env.scope.names.lookup x = some .local:=by first | exact .inl rfl | exact .inr rfl | assumption):wpAny M A (storeName X.env x u) Q E s:=by
  refine L2.o_EA (id I.loc) fun m hn hl=>?_
  have hcls:(X.env.scope.kind == .class || (X.env.scope.kind == .module && X.env.locals != X.env.globals)) = false:=by rw [I.ok.kind]; rfl
  have hiσ:i < σ.length:=by rw [I.len]; exact (List.getElem?_eq_some_iff.mp hi).1
  have cne:=I.cne
  have tracked:∀ {a:Addr} {h':Heap},(∃ o,s.heap.get? a = some o ∧ H a = none) → Heap.SameBut a s.heap h' → HOk X.prog X.w H h':=fun {a h'} ha hs b ob e=>by
    refine L2.o_EA (ha) fun _ _ hfree=>?_
    refine (I.hok b ob e).stay (fun c w' hc q=>(hs.2 c ?_).trans q) (fun _ q=>q) fun _ _ q=>q
    rintro rfl
    rcases hc with rfl | hc
    · rw [hfree] at e; cases e
    · rw [hfree] at hc; cases hc
  rcases hx with hk | hk
  · refine wpAny_storeName_local hk hn (fun h' hn' hs=>?_) hcls
    refine L2.o_EEEA (id hn) fun oL _ _ hoL _=>?_
    refine h _ ⟨I.ok,I.os,I.bare,⟨fun b o e n hb hx=>?_,fun b o e n hb hx=>?_,I.base.free,fun b o e hx=>?_,I.base.tups,I.base.frzs,I.base.tbls,I.base.tabs⟩,⟨_,hn',fun j y v' e1 e2 e3=>?_⟩,fun y c e=>?_,I.free,I.freeC,fun p hp=>?_,tracked ⟨oL,hoL,I.free⟩ hs,by simpa using I.len⟩ ⟨_,hs,.inl rfl⟩
    · exact (hs.2 b (Nat.ne_of_lt (Nat.lt_of_lt_of_le (Heap.lt_size e) I.ok.above))).trans (I.base.keep b o e n hb hx)
    · refine L2.o_E (I.base.slot b o e n hb hx) fun sl e1=>?_
      exact ⟨sl,(hs.2 b (Nat.ne_of_lt (Nat.lt_of_lt_of_le (Heap.lt_size e) I.ok.above))).trans e1⟩
    · refine L2.o_E (I.base.there b o e hx) fun o' e1=>?_
      exact ⟨o',(hs.2 b (Nat.ne_of_lt (Nat.lt_of_lt_of_le (Heap.lt_size e) I.ok.above))).trans e1⟩
    · by_cases hj:j = i
      · subst hj
        rw [hi] at e1; cases e1
        rw [List.getElem?_set_self hiσ] at e2
        cases e2
        exact ⟨u,r,.inl ⟨hk,by simp⟩⟩
      · rw [List.getElem?_set_ne (Ne.symm hj)] at e2
        refine L2.o_EA (hl j y v' e1 e2 e3) fun u' r' q=>?_
        refine ⟨u',r',?_⟩
        rcases q with ⟨k,e⟩ | ⟨k,c,e,z⟩
        · refine .inl ⟨k,?_⟩
          have:y ≠ x:=fun e=>hj (nodup_ix hN e1 (e ▸ hi))
          simp [this,e]
        · exact .inr ⟨k,c,e,z.sameBut hs (cne y c e)⟩
    · refine L2.o_E (I.cell y c e) fun w' z=>?_
      exact ⟨w',z.sameBut hs (cne y c e)⟩
    · refine L2.o_AAAA (I.pin p hp) fun e n ne nf d=>?_
      exact ⟨(hs.2 p.1 ne).trans e,n,ne,nf,d⟩
  · have hfn:X.fn x = true:=by
      rcases hf with z | z
      · exact z
      · rw [z] at hk; cases hk
    refine L2.o_E (I.ok.has x (.inl hk)) fun c hc=>?_
    refine L2.o_E (I.cell x c hc) fun w' z=>?_
    refine wpAny_storeName_cell I.ok.kind hk hc z (fun h' hc' hs=>?_)
    refine L2.o_EA (id z) fun oc hoc hocd=>?_
    refine h { s with heap:=h' } ⟨I.ok,I.os,I.bare,⟨fun b o e n hb hx=>?_,fun b o e n hb hx=>?_,I.base.free,fun b o e hx=>?_,I.base.tups,I.base.frzs,I.base.tbls,I.base.tabs⟩,⟨m,hn.sameBut hs (Ne.symm (cne x c hc)),fun j y v' e1 e2 e3=>?_⟩,fun y c' e=>?_,I.free,I.freeC,fun p hp=>?_,tracked ⟨oc,hoc,(I.freeC x c hc).resolve_right fun z=>by have z1:=z.1; rw [hfn] at z1; cases z1⟩ hs,by simpa using I.len⟩ ⟨c,hs,.inr hc⟩
    · exact (hs.2 b (Nat.ne_of_lt (Nat.lt_of_lt_of_le (Heap.lt_size e) (I.ok.cab x c hfn hc)))).trans (I.base.keep b o e n hb hx)
    · refine L2.o_E (I.base.slot b o e n hb hx) fun sl e1=>?_
      exact ⟨sl,(hs.2 b (Nat.ne_of_lt (Nat.lt_of_lt_of_le (Heap.lt_size e) (I.ok.cab x c hfn hc)))).trans e1⟩
    · refine L2.o_E (I.base.there b o e hx) fun o' e1=>?_
      exact ⟨o',(hs.2 b (Nat.ne_of_lt (Nat.lt_of_lt_of_le (Heap.lt_size e) (I.ok.cab x c hfn hc)))).trans e1⟩
    · by_cases hj:j = i
      · subst hj
        rw [hi] at e1; cases e1
        rw [List.getElem?_set_self hiσ] at e2
        cases e2
        exact ⟨u,r,.inr ⟨.inl hk,c,hc,hc'⟩⟩
      · rw [List.getElem?_set_ne (Ne.symm hj)] at e2
        refine L2.o_EA (hl j y v' e1 e2 e3) fun u' r' q=>?_
        refine ⟨u',r',?_⟩
        rcases q with q | ⟨k,c',e,z'⟩
        · exact .inl q
        · refine .inr ⟨k,c',e,z'.sameBut hs ?_⟩
          rintro rfl
          exact hj (nodup_ix hN e1 (I.ok.inj _ _ _ e hc ▸ hi))
    · by_cases hcc:c' = c
      · subst hcc; exact ⟨_,hc'⟩
      · refine L2.o_E (I.cell y c' e) fun w2 z2=>?_
        exact ⟨w2,z2.sameBut hs hcc⟩
    · refine L2.o_AAAA (I.pin p hp) fun e n ne nf d=>?_
      refine ⟨(hs.2 p.1 ?_).trans e,n,ne,nf,d⟩
      intro q
      rw [q,hoc] at e
      have q':oc = p.2:=Option.some.inj e
      exact d w' (by rw [← q']; exact hocd)
theorem store_ok {M:Model} {A:Around} {E:Value → Shared → Prop} {i:Nat} {x:Str} {v:V} {u:Value} {Q:Unit → Shared → Prop} (I:Inv X pins σ H s) (hN:X.N.Nodup) (hi:X.N[i]? = some x) (hx:Loc X.env.scope x) (r:RelV v u)
    (h:∀ s',Inv X pins (σ.set i (some v)) H s' → Q () s') (hf:X.fn x = true ∨ X.env.scope.names.lookup x = some .local:=by first | exact .inl rfl | exact .inr rfl | assumption):wpAny M A (storeName X.env x u) Q E s:=
  store_ok2 I hN hi hx r (fun s' I' _=>h s' I') hf
theorem Inv.call' {s':Shared} {ch:List Addr} (I:Inv X pins σ H s) (ho:s'.os = s.os) (u:Un (frs X.stack) ch H H' s.heap s'.heap) (hok:HOk X.prog X.w H' s'.heap) (hg:AllBare s'.gens)
    (hch:∀ b ∈ ch,(b ∈ X.ex ∨ X.s₀.heap.objs.size ≤ b) ∧ b ≠ X.env.locals ∧ (∀ x c,X.env.cells.lookup x = some c → c ≠ b) ∧ ∀ p ∈ X.pn ++ pins,p.1 ≠ b):Inv X pins σ H' s':=by
  obtain ⟨h',g',d',t',o'⟩:=s'
  have e:o' = s.os:=ho
  subst e
  exact I.call (g':=g') (t':=t') (d':=d') u hok hg hch
end
noncomputable abbrev XK:=Value → Option Addr → Hp → Prop
noncomputable abbrev St:=List (Option V)
noncomputable abbrev VK:=V → Hp → Prop
noncomputable abbrev TE:=St → Hp → VK → Prop
noncomputable abbrev TT:=St → Hp → (Bool → Hp → Prop) → Prop
noncomputable abbrev TA:=St → Hp → (List V → Hp → Prop) → Prop
structure Ends where
  nx:St → Hp → Prop
  rt:VK
  bk:St → Hp → Prop:=fun _ _=>False
  ct:St → Hp → Prop:=fun _ _=>False
noncomputable abbrev TS:=Ends → St → Hp → Prop
inductive EP (X:Cx) (pins:List (Addr × Obj)) (σ:St) (Q:VK) (u:Value) (s':Shared):Prop
  | mk (v:V) (H':Hp) (I:Inv X pins σ H' s') (r:RelV v u) (q:Q v H'):EP X pins σ Q u s'
inductive TP (X:Cx) (pins:List (Addr × Obj)) (σ:St) (Q:Bool → Hp → Prop) (b:Bool) (s':Shared):Prop
  | mk (H':Hp) (I:Inv X pins σ H' s') (q:Q b H'):TP X pins σ Q b s'
theorem TP.elim {X:Cx} {pins:List (Addr × Obj)} {σ:St} {Q:Bool → Hp → Prop} {b:Bool} {s':Shared} {P:Prop} (h:TP X pins σ Q b s') (k:∀ H',Inv X pins σ H' s' → Q b H' → P):P:=by cases h with | mk H' I q=>exact k H' I q
inductive AP (X:Cx) (pins:List (Addr × Obj)) (σ:St) (Q:List V → Hp → Prop) (us:List Value) (s':Shared):Prop
  | mk (vs:List V) (H':Hp) (I:Inv X pins σ H' s') (r:Vals vs us) (q:Q vs H'):AP X pins σ Q us s'
noncomputable def SP (X:Cx) (pins:List (Addr × Obj)) (D:Ends) (f:Flow) (s':Shared):Prop:=
  match f with
  | .next=>∃ σ' H',Inv X pins σ' H' s' ∧ D.nx σ' H'
  | .brk=>∃ σ' H',Inv X pins σ' H' s' ∧ D.bk σ' H'
  | .cont=>∃ σ' H',Inv X pins σ' H' s' ∧ D.ct σ' H'
  | .ret u=>∃ v σ' H',Inv X pins σ' H' s' ∧ RelV v u ∧ D.rt v H'
noncomputable def PE (X:Cx) (e:Expr) (t:TE):Prop:=
  ∀ (pins:List (Addr × Obj)) (s:Shared) (σ:St) (H:Hp) (Q:VK),Inv X pins σ H s → t σ H Q → wpAny (model X.prog X.w) X.A (eval e X.env) (EP X pins σ Q) X.xe s
noncomputable def PT (X:Cx) (e:Expr) (t:TT):Prop:=
  ∀ (pins:List (Addr × Obj)) (s:Shared) (σ:St) (H:Hp) (Q:Bool → Hp → Prop),Inv X pins σ H s → t σ H Q → wpAny (model X.prog X.w) X.A (isTrue e X.env (eval e X.env)) (TP X pins σ Q) X.xe s
noncomputable def PW (X:Cx) (e:Expr) (t:TT):Prop:=
  ∀ (whole:Sem Value) (pins:List (Addr × Obj)) (s:Shared) (σ:St) (H:Hp) (Q:Bool → Hp → Prop),Inv X pins σ H s → t σ H Q → wpAny (model X.prog X.w) X.A (isTrue e X.env whole) (TP X pins σ Q) X.xe s
theorem PW.pt {X:Cx} {e:Expr} {t:TT} (h:PW X e t):PT X e t:=h _
noncomputable def PA (X:Cx) (es:List Expr) (t:TA):Prop:=
  ∀ (pos:Pos) (pins:List (Addr × Obj)) (s:Shared) (σ:St) (H:Hp) (Q:List V → Hp → Prop),Inv X pins σ H s → t σ H Q → wpAny (model X.prog X.w) X.A (spliced (backTo pos (starEach es X.env))) (AP X pins σ Q) X.xe s
noncomputable def PS (X:Cx) (st:Stmt) (t:TS):Prop:=
  ∀ (pins:List (Addr × Obj)) (s:Shared) (σ:St) (H:Hp) (D:Ends),Inv X pins σ H s → t D σ H → wpAny (model X.prog X.w) X.A (exec st X.env) (SP X pins D) X.xe s
noncomputable def PSs (X:Cx) (st:List Stmt) (t:TS):Prop:=
  ∀ (pins:List (Addr × Obj)) (s:Shared) (σ:St) (H:Hp) (D:Ends),Inv X pins σ H s → t D σ H → wpAny (model X.prog X.w) X.A (execs st X.env) (SP X pins D) X.xe s
theorem thn {α:Type} {t:Sem α} {Q Q':α → Shared → Prop} {M:Model} {A:Around} {E:Value → Shared → Prop} {s:Shared} (h:wpAny M A t Q E s) (hQ:∀ a s,Q a s → Q' a s):wpAny M A t Q' E s:=wpAny_mono h hQ fun _ _ x=>x
end L2
namespace L2
open PySem PySem.Spec PyProof.Rows
section
variable {X:Cx}
noncomputable def tVar (i:Nat):TE:=fun σ H Q=>∃ v,σ[i]? = some (some v) ∧ Q v H
noncomputable def tC (v:V):TE:=fun _ H Q=>Q v H
theorem pe_var {i:Nat} {x:Str} {pos:Pos} (hN:X.N[i]? = some x) (hv:Vis X.env.scope x) (hd:autoParam ((x == ("__debug__":Str)) = false) L2.ad._auto_1) (hcd:autoParam ((x == ("__classdict__":Str)) = false) L2.ad._auto_1):PE X (.Name x pos) (tVar i):=by
  intro pins s σ H Q I h
  revert h
  refine fun zqq=>L2.o_EA zqq fun v e h=>?_
  clear zqq
  refine L2.o_EA (I.loc) fun m hn hl=>?_
  refine L2.o_EA (hl i x v hN e hv) fun u r l=>?_
  have fin:EP X pins σ Q u s:=⟨v,H,I,r,h⟩
  rcases l with ⟨hk,hm⟩ | ⟨hk,c,hc,hcell⟩
  · exact wpAny_Name (wpAny_loadName_local I.ok.kind hk hn hm fin) hd
  · rcases hk with hk | hk
    · exact wpAny_Name (wpAny_loadName_cell I.ok.kind hk hc hcell fin) hd
    · exact wpAny_Name (wpAny_loadName_free I.ok.kind hk hc hcell fin hcd) hd
theorem pe_int {i j pos}:PE X (.Constant (.int i) j pos) (tC (.int i)):=fun _ _ _ H _ I h=>wpAny_Constant_int ⟨.int i,H,I.tok _,⟨_,rfl⟩,h⟩
theorem pe_bl {b j pos}:PE X (.Constant (.bool b) j pos) (tC (.bl b)):=fun _ _ _ H _ I h=>Constant_bool ⟨.bl b,H,I,rfl,h⟩
theorem pe_non {j pos}:PE X (.Constant .none j pos) (tC .non):=fun _ _ _ H _ I h=>Constant_none ⟨.non,H,I,rfl,h⟩
theorem pe_str {x j pos}:PE X (.Constant (.str x) j pos) (tC (.str x)):=fun _ _ _ H _ I h=>Calls.Constant_str ⟨.str x,H,I.tok _,⟨_,rfl⟩,h⟩
noncomputable def Gl (X:Cx) (x:Str):Prop:=X.env.kindOf x = some .globalImplicit
theorem ld_glob {E:Value → Shared → Prop} {pins:List (Addr × Obj)} {s:Shared} {σ:St} {H:Hp} {x:Str} {u:Value} {pos:Pos} {Q:Value → Shared → Prop} (I:Inv X pins σ H s) (hg:Gl X x) (hm:X.mg x = some u) (h:Q u s)
    (hd:autoParam ((x == ("__debug__":Str)) = false) L2.ad._auto_1):wpAny (model X.prog X.w) X.A (eval (.Name x pos) X.env) Q E s:=
  Calls.Name_function_global I.ok.kind hg (Calls.loadGlobal_global (by rw [I.ok.glob]; exact I.mod.glob.keeps I.bk) hm h) hd
theorem ld_blt {E:Value → Shared → Prop} {pins:List (Addr × Obj)} {s:Shared} {σ:St} {H:Hp} {x:Str} {u:Value} {pos:Pos} {Q:Value → Shared → Prop} (I:Inv X pins σ H s) (hg:Gl X x) (hm:X.mg x = none) (hv:bootBuiltins x = some u) (h:Q u s)
    (hn:autoParam (x ≠ "__name__") L2.ad._auto_1) (hd:autoParam ((x == ("__debug__":Str)) = false) L2.ad._auto_1):wpAny (model X.prog X.w) X.A (eval (.Name x pos) X.env) Q E s:=by
  refine L2.o_EA (I.mod.blt) fun mb h1 h2=>?_
  exact Calls.Name_function_global I.ok.kind hg (Calls.loadGlobal_builtin (by rw [I.ok.glob]; exact I.mod.glob.keeps I.bk) hm (by rw [I.ok.blt]; exact h1.keeps I.bk) ((h2 x hn).trans hv) h) hd
theorem pe_glob {x:Str} {v:V} {u:Value} {pos:Pos} (hg:Gl X x) (hm:X.mg x = some u) (r:RelV v u) (hd:autoParam ((x == ("__debug__":Str)) = false) L2.ad._auto_1):PE X (.Name x pos) (tC v):=
  fun _ _ _ H _ I h=>ld_glob I hg hm ⟨v,H,I,r,h⟩ hd
theorem pe_bltn {x:Str} {v:V} {u:Value} {pos:Pos} (hg:Gl X x) (hm:X.mg x = none) (hv:bootBuiltins x = some u) (r:RelV v u) (hn:autoParam (x ≠ "__name__") L2.ad._auto_1) (hd:autoParam ((x == ("__debug__":Str)) = false) L2.ad._auto_1):PE X (.Name x pos) (tC v):=
  fun _ _ _ H _ I h=>ld_blt I hg hm hv ⟨v,H,I,r,h⟩ hn hd
noncomputable def t2I (ta tb:TE) (k:Int → Int → Hp → Prop):St → Hp → Prop:=fun σ H=>ta σ H fun x H1=>tb σ H1 fun y H2=>∃ i j,x = .int i ∧ y = .int j ∧ k i j H2
variable {a b:Expr} {ta tb:TE} {pos:Pos}
noncomputable def PC (X:Cx) (op:CmpOp) (a b:Expr) (t:TE):Prop:=
  ∀ (pins:List (Addr × Obj)) (s:Shared) (σ:St) (H:Hp) (Q:VK),Inv X pins σ H s → t σ H Q →
    wpAny (model X.prog X.w) X.A (eval a X.env) (fun v s₁=>wpAny (model X.prog X.w) X.A (eval b X.env) (fun u s₂=>wpAny (model X.prog X.w) X.A (compareOp op v u) (EP X pins σ Q) X.xe s₂) X.xe s₁) X.xe s
noncomputable def tCmp (p:Int → Int → Bool) (ta tb:TE):TE:=fun σ H Q=>t2I ta tb (fun i j H2=>Q (.bl (p i j)) H2) σ H
noncomputable abbrev tLt:TE → TE → TE:=tCmp fun i j=>decide (i < j)
noncomputable abbrev tLe:TE → TE → TE:=tCmp fun i j=>decide (i ≤ j)
noncomputable abbrev tGt:TE → TE → TE:=tCmp fun i j=>decide (j < i)
noncomputable abbrev tGe:TE → TE → TE:=tCmp fun i j=>decide (j ≤ i)
noncomputable abbrev tEqI:TE → TE → TE:=tCmp fun i j=>decide (i = j)
noncomputable abbrev tNeI:TE → TE → TE:=tCmp fun i j=>!decide (i = j)
noncomputable def tB (t:TE):TT:=fun σ H Q=>t σ H fun x H1=>∃ c,x = .bl c ∧ Q c H1
theorem pt_val {e:Expr} {t:TE} (h:PE X e t) (he:∀ whole,isTrue e X.env whole = (do let v ← whole; standAt e.pos; holding [v] (truthy v)):=by intro _; rfl):PT X e (tB t):=by
  intro pins s σ H Q I hw
  refine isTrue_plain (thn (h pins s σ H _ I hw) fun v s1 ⟨x,H1,I1,r1,q1⟩=>?_) (he _)
  revert q1
  refine fun zqq=>L2.o_EA zqq fun d zq1 q=>?_
  clear zqq
  subst zq1
  cases r1
  exact wpAny_truthy_bool ⟨H1,I1,q⟩
variable {tA tB':TT} {rest:List Expr}
noncomputable def tAnd (t u:TT):TT:=fun σ H Q=>t σ H fun c H1=>if c = true then u σ H1 Q else Q false H1
noncomputable def tOr (t u:TT):TT:=fun σ H Q=>t σ H fun c H1=>if c = true then Q true H1 else u σ H1 Q
noncomputable def tNot (t:TT):TT:=fun σ H Q=>t σ H fun c H1=>Q (!c) H1
theorem pw_and1 (ha:PT X a tA):PW X (.BoolOp .And [a] pos) tA:=by
  intro wh pins s σ H Q I h
  refine isTrue_and (thn (ha pins s σ H Q I h) fun c s1 e=>?_)
  cases c with
  | true=>exact isTrue_and_nil e
  | false=>exact e
theorem pw_or1 (ha:PT X a tA):PW X (.BoolOp .Or [a] pos) tA:=by
  intro wh pins s σ H Q I h
  refine isTrue_or (thn (ha pins s σ H Q I h) fun c s1 e=>?_)
  cases c with
  | false=>exact isTrue_or_nil e
  | true=>exact e
theorem pw_and (ha:PT X a tA) (hb:PW X (.BoolOp .And (b :: rest) pos) tB'):PW X (.BoolOp .And (a :: b :: rest) pos) (tAnd tA tB'):=by
  intro wh pins s σ H Q I h
  refine isTrue_and (thn (ha pins s σ H _ I h) fun c s1 zpat=>?_)
  obtain ⟨H1,I1,q1⟩:=zpat
  cases c with
  | true=>exact hb wh pins s1 σ H1 Q I1 q1
  | false=>exact ⟨H1,I1,q1⟩
theorem pw_or (ha:PT X a tA) (hb:PW X (.BoolOp .Or (b :: rest) pos) tB'):PW X (.BoolOp .Or (a :: b :: rest) pos) (tOr tA tB'):=by
  intro wh pins s σ H Q I h
  refine isTrue_or (thn (ha pins s σ H _ I h) fun c s1 zpat=>?_)
  obtain ⟨H1,I1,q1⟩:=zpat
  cases c with
  | true=>exact ⟨H1,I1,q1⟩
  | false=>exact hb wh pins s1 σ H1 Q I1 q1
theorem pt_not (ha:PT X a tA):PT X (.UnaryOp .Not a pos) (tNot tA):=by
  intro pins s σ H Q I h
  exact isTrue_not (wpAny_mono (ha pins s σ H (fun c H1=>Q (!c) H1) I h) (fun c s' q=>q.elim fun H' I' q'=>⟨H',I',q'⟩) fun _ _ z=>z)
noncomputable def tAndV (ta tb:TE):TE:=fun σ H Q=>ta σ H fun x H1=>∃ c,x = .bl c ∧ if c = true then tb σ H1 Q else Q (.bl false) H1
noncomputable def tNotV (ta:TE):TE:=fun σ H Q=>ta σ H fun x H1=>∃ c,x = .bl c ∧ Q (.bl (!c)) H1
theorem pe_one {op} {t:TE} (h:PE X a t):PE X (.BoolOp op [a] pos) t:=fun pins s σ H Q I hw=>BoolOp_one (h pins s σ H Q I hw)
theorem pe_and (ha:PE X a ta) (hb:PE X (.BoolOp .And (b :: rest) pos) tb):PE X (.BoolOp .And (a :: b :: rest) pos) (tAndV ta tb):=by
  intro pins s σ H Q I h
  refine BoolOp_and (thn (ha pins s σ H _ I h) fun v s1 zpat=>?_)
  obtain ⟨x,H1,I1,r1,q1⟩:=zpat
  revert q1
  refine fun zqq=>L2.o_EA zqq fun c zq1 q1=>?_
  clear zqq
  subst zq1
  cases r1
  refine wpAny_truthy_bool ?_
  cases c with
  | true=>exact hb pins s1 σ H1 Q I1 q1
  | false=>exact ⟨.bl false,H1,I1,rfl,q1⟩
theorem pe_not (ha:PE X a ta):PE X (.UnaryOp .Not a pos) (tNotV ta):=by
  intro pins s σ H Q I h
  refine UnaryOp_ (thn (ha pins s σ H _ I h) fun v s1 zpat=>?_)
  obtain ⟨x,H1,I1,r1,q1⟩:=zpat
  revert q1
  refine fun zqq=>L2.o_EA zqq fun c zq1 q1=>?_
  clear zqq
  subst zq1
  cases r1
  exact not_of (wpAny_truthy_bool ⟨.bl (!c),H1,I1,rfl,q1⟩)
end
end L2
namespace L2
open PySem PySem.Spec PyProof.Rows
noncomputable def SqL (K:PySem.W.Frag) (H:Hp) (a:Addr) (xs:List V):Prop:=
  Rd H a (.lst xs) ∨
    ∃ (o:Obj) (its:Array Value) (n:Nat),K.lookup a = some o ∧ o.cls = .type "list" ∧ o.dict = none ∧ o.data = .seq its n ∧ its.size ≤ sizeLine ∧ Vals xs its.toList
noncomputable def SqT (K:PySem.W.Frag) (H:Hp) (a:Addr) (xs:List V):Prop:=
  Rd H a (.tup xs) ∨
    ∃ (o:Obj) (its:Array Value) (n:Nat),K.lookup a = some o ∧ o.cls = .type "tuple" ∧ o.data = .seq its n ∧ its.size ≤ sizeLine ∧ Vals xs its.toList
noncomputable def absV:Value → Option V
  | .none=>some .non
  | .bool b=>some (.bl b)
  | .int i _=>some (.int i)
  | .str x _=>some (.str x)
  | .bytes b _=>some (.byt b)
  | .float b _=>some (.flt b)
  | .ref a=>some (.ref a)
  | .type n=>some (.ty n)
  | _=>none
theorem RelV.abs {x:V} {u:Value} (r:RelV x u):absV u = some x:=by
  cases x with
  | non=>cases r; rfl
  | bl _=>cases r; rfl
  | int _=>obtain ⟨t,rfl⟩:=r; rfl
  | str _=>obtain ⟨t,rfl⟩:=r; rfl
  | byt _=>obtain ⟨t,rfl⟩:=r; rfl
  | flt _=>obtain ⟨t,rfl⟩:=r; rfl
  | ref _=>cases r; rfl
  | ty _=>cases r; rfl
theorem RelV.inj {x y:V} {u:Value} (r:RelV x u) (q:RelV y u):x = y:=Option.some.inj (r.abs.symm.trans q.abs)
theorem Vals.inj {xs ys:List V} {us:List Value} (h:Vals xs us) (h':Vals ys us):xs = ys:=by
  induction h generalizing ys with
  | nil=>cases h'; rfl
  | cons r t ih=>
    cases h' with
    | cons r' t'=>rw [r.inj r',ih t']
section
variable {X:Cx} {pins:List (Addr × Obj)} {σ:St} {H:Hp} {s:Shared} {a:Addr} {xs ys:List V}
theorem SqL.of {K:PySem.W.Frag} (h:H a = some (.lst xs)):SqL K H a xs:=.inl (.inl h)
theorem SqT.of {K:PySem.W.Frag} (h:H a = some (.tup xs)):SqT K H a xs:=.inl (.inl h)
theorem Inv.list (I:Inv X pins σ H s) (h:SqL X.K H a xs):∃ its:List Value,Vals xs its ∧ PlainL s.heap a its.toArray ∧ xs.length ≤ sizeLine:=by
  rcases h with h | ⟨o,its,n,hk,hc,hd,hs,hz,r⟩
  · refine L2.o_AEEA (h.ok I.hok) fun z its n r e=>?_
    exact ⟨its,r,⟨_,n,e,rfl,rfl,rfl⟩,z⟩
  · refine ⟨its.toList,r,⟨o,n,I.kIn a o hk,hc,hd,by simpa using hs⟩,?_⟩
    have e:=r.length
    simp only [Array.length_toList] at e
    omega
theorem Inv.tuple (I:Inv X pins σ H s) (h:SqT X.K H a xs):∃ its:List Value,Vals xs its ∧ IsTup s.heap a its.toArray ∧ xs.length ≤ sizeLine:=by
  rcases h with h | ⟨o,its,n,hk,hc,hs,hz,r⟩
  · refine L2.o_AEA (h.ok I.hok) fun z its r p=>?_
    exact ⟨its,r,p,z⟩
  · refine ⟨its.toList,r,⟨o,I.kIn a o hk,hc,n,by simpa using hs⟩,?_⟩
    have e:=r.length
    simp only [Array.length_toList] at e
    omega
theorem Inv.list_inj (I:Inv X pins σ H s) (h:SqL X.K H a xs) (h':SqL X.K H a ys):xs = ys:=by
  obtain ⟨its,r,⟨o,n,e,_,_,d⟩,_⟩:=I.list h
  obtain ⟨its',r',⟨o',n',e',_,_,d'⟩,_⟩:=I.list h'
  rw [e] at e'; cases e'
  rw [d] at d'
  injection d' with d1 _
  have:its = its':=by simpa using congrArg Array.toList d1
  subst this
  exact r.inj r'
theorem Inv.tuple_inj (I:Inv X pins σ H s) (h:SqT X.K H a xs) (h':SqT X.K H a ys):xs = ys:=by
  obtain ⟨its,r,⟨o,e,_,n,d⟩,_⟩:=I.tuple h
  obtain ⟨its',r',⟨o',e',_,n',d'⟩,_⟩:=I.tuple h'
  rw [e] at e'; cases e'
  rw [d] at d'
  injection d' with d1 _
  have:its = its':=by simpa using congrArg Array.toList d1
  subst this
  exact r.inj r'
end
noncomputable abbrev Cx.wish (X:Cx) (E:Value → Shared → Prop):Cx:={ X with xe:=E }
noncomputable abbrev Cx.nox (X:Cx):Cx:=X.wish fun _ _=>False
theorem Cx.Ok.wish {X:Cx} (ok:X.Ok) (E:Value → Shared → Prop):(X.wish E).Ok:=
  ⟨ok.mod,ok.kind,ok.glob,ok.blt,ok.above,ok.inj,ok.has,ok.cab,ok.hd,ok.frames,ok.stk,ok.exf,ok.bs,ok.bsz,ok.noex,ok.exfs,ok.funs,ok.frf,ok.tabs⟩
theorem Cx.Ok.unwish {X:Cx} {E:Value → Shared → Prop} (ok:(X.wish E).Ok):X.Ok:=
  ⟨ok.mod,ok.kind,ok.glob,ok.blt,ok.above,ok.inj,ok.has,ok.cab,ok.hd,ok.frames,ok.stk,ok.exf,ok.bs,ok.bsz,ok.noex,ok.exfs,ok.funs,ok.frf,ok.tabs⟩
section
variable {X:Cx} {pins:List (Addr × Obj)} {σ:St} {H:Hp} {s:Shared} {E:Value → Shared → Prop}
theorem Inv.wish (I:Inv X pins σ H s) (E:Value → Shared → Prop):Inv (X.wish E) pins σ H s:=⟨I.ok.wish E,I.os,I.bare,I.base,I.loc,I.cell,I.free,I.freeC,I.pin,I.hok,I.len⟩
theorem Inv.unwish (I:Inv (X.wish E) pins σ H s):Inv X pins σ H s:=⟨I.ok.unwish,I.os,I.bare,I.base,I.loc,I.cell,I.free,I.freeC,I.pin,I.hok,I.len⟩
theorem SP.unwish {D:Ends} {f:Flow} {s':Shared} (h:SP (X.wish E) pins D f s'):SP X pins D f s':=by
  cases f with
  | next=>obtain ⟨σ',H',I,q⟩:=h; exact ⟨σ',H',I.unwish,q⟩
  | brk=>obtain ⟨σ',H',I,q⟩:=h; exact ⟨σ',H',I.unwish,q⟩
  | cont=>obtain ⟨σ',H',I,q⟩:=h; exact ⟨σ',H',I.unwish,q⟩
  | ret u=>obtain ⟨v,σ',H',I,r,q⟩:=h; exact ⟨v,σ',H',I.unwish,r,q⟩
theorem PT.nox {e:Expr} {t:TT} (h:PT X.nox e t):PT X e t:=fun pins s σ H Q I hw=>
  wpAny_mono (h pins s σ H Q (I.wish _) hw) (fun _ _ ⟨H',I',q⟩=>⟨H',I'.unwish,q⟩) fun _ _ z=>False.elim z
theorem PSs.nox {st:List Stmt} {t:TS} (h:PSs X.nox st t):PSs X st t:=fun pins s σ H D I hw=>
  wpAny_mono (h pins s σ H D (I.wish _) hw) (fun _ _ q=>q.unwish) fun _ _ z=>False.elim z
end
section
variable {X:Cx} {st:Stmt} {rest:List Stmt} {t u:TS} {e:Expr} {te:TE} {pos:Pos}
noncomputable def tNext:TS:=fun D σ H=>D.nx σ H
noncomputable def tSeq (t u:TS):TS:=fun D σ H=>t { D with nx:=u D } σ H
theorem pss_nil:PSs X [] tNext:=fun _ _ σ H _ I h=>wpAny_execs_nil ⟨σ,H,I,h⟩
theorem pss_cons (h1:PS X st t) (h2:PSs X rest u):PSs X (st :: rest) (tSeq t u):=by
  intro pins s σ H D I h
  refine wpAny_execs_cons (thn (h1 pins s σ H { D with nx:=u D } I h) fun f s1 q=>?_)
  cases f with
  | next=>
    revert q
    refine fun zqq=>L2.o_EEA zqq fun σ' H' I' q=>?_
    clear zqq
    exact h2 pins s1 σ' H' D I' q
  | ret v=>exact q
  | brk=>exact q
  | cont=>exact q
theorem pss_one (h1:PS X st t):PSs X [st] t:=by
  intro pins s σ H D I h
  refine wpAny_execs_cons (thn (h1 pins s σ H D I h) fun f s1 q=>?_)
  cases f with
  | next=>exact wpAny_execs_nil q
  | ret v=>exact q
  | brk=>exact q
  | cont=>exact q
theorem Inv.quiet {pins:List (Addr × Obj)} {σ:St} {H:Hp} {s:Shared} (I:Inv X pins σ H s):interactive X.env = false:=by simp [interactive,I.ok.kind]
noncomputable def tDrop (te:TE):TS:=fun D σ H=>te σ H fun _ H1=>D.nx σ H1
theorem ps_expr (he:PE X e te) (hs:autoParam (swapsWith e none pos.line X.env = pure false) L2.ar._auto_1):PS X (.Expr e pos) (tDrop te):=by
  intro pins s σ H D I h
  exact wpAny_Expr_any (thn (he pins s σ H _ I h) fun v s1 ⟨x,H1,I1,r1,q1⟩=>⟨σ,H1,I1,q1⟩) I.quiet hs
noncomputable def tRet (te:TE):TS:=fun D σ H=>te σ H D.rt
theorem ps_ret (he:PE X e te):PS X (.Return (some e) pos) (tRet te):=by
  intro pins s σ H D I h
  exact wpAny_Return_some (thn (he pins s σ H _ I h) fun v s1 ⟨x,H1,I1,r1,q1⟩=>⟨x,σ,H1,I1,r1,q1⟩)
noncomputable def tIfS (c:TT) (t u:TS):TS:=fun D σ H=>c σ H fun b H1=>if b = true then t D σ H1 else u D σ H1
theorem ps_if {c:Expr} {a b:List Stmt} {tc:TT} (hc:PT X c tc) (ha:PSs X a t) (hb:PSs X b u):PS X (.If c a b pos) (tIfS tc t u):=by
  intro pins s σ H D I h
  refine wpAny_If (thn (hc pins s σ H _ I h) fun d s1 zpat=>?_)
  obtain ⟨H1,I1,q1⟩:=zpat
  cases d with
  | true=>exact ha pins s1 σ H1 D I1 q1
  | false=>exact hb pins s1 σ H1 D I1 q1
noncomputable def tNever:TS:=fun _ _ _=>False
theorem ps_never:PS X st tNever:=fun _ _ _ _ _ _ h=>h.elim
end
noncomputable abbrev TG:=V → St → Hp → (St → Hp → Prop) → Prop
noncomputable abbrev TGs:=List V → St → Hp → (St → Hp → Prop) → Prop
noncomputable def PG (X:Cx) (target:Expr) (t:TG):Prop:=
  ∀ (pins:List (Addr × Obj)) (s:Shared) (σ:St) (H:Hp) (v:V) (u:Value) (Q:St → Hp → Prop),Inv X pins σ H s → RelV v u → t v σ H Q →
    wpAny (model X.prog X.w) X.A (assign target X.env u) (fun _ s'=>∃ σ' H',Inv X pins σ' H' s' ∧ Q σ' H') X.xe s
noncomputable def PGs (X:Cx) (ts:List Expr) (t:TGs):Prop:=
  ∀ (pins:List (Addr × Obj)) (s:Shared) (σ:St) (H:Hp) (vs:List V) (us:List Value) (Q:St → Hp → Prop),Inv X pins σ H s → Vals vs us → t vs σ H Q →
    wpAny (model X.prog X.w) X.A (assignInOrder ((assignEach ts X.env).map (·.2)) us) (fun _ s'=>∃ σ' H',Inv X pins σ' H' s' ∧ Q σ' H') X.xe s
noncomputable abbrev TSet:=V → V → V → Hp → (Hp → Prop) → Prop
noncomputable def PSet (X:Cx) (t:TSet):Prop:=
  ∀ (pins:List (Addr × Obj)) (s:Shared) (σ:St) (H:Hp) (o i v:V) (ov iv u:Value) (Q:Hp → Prop),Inv X pins σ H s → RelV o ov → RelV i iv → RelV v u → t o i v H Q →
    wpAny (model X.prog X.w) X.A (setItem ov iv u) (fun _ s'=>∃ H',Inv X pins σ H' s' ∧ Q H') X.xe s
noncomputable abbrev TIp:=V → V → Hp → VK → Prop
section
variable {X:Cx} {pos:Pos}
noncomputable def gName (i:Nat):TG:=fun v σ H Q=>Q (σ.set i (some v)) H
theorem pg_name {i:Nat} {x:Str} (hN:X.N.Nodup) (hi:X.N[i]? = some x) (hx:Loc X.env.scope x) (hf:X.fn x = true ∨ X.env.scope.names.lookup x = some .local:=by first | exact .inl rfl | exact .inr rfl | assumption):PG X (.Name x pos) (gName i):=by
  intro pins s σ H v u Q I r h
  exact wpAny_assign_Name (store_ok I hN hi hx r (fun s' I'=>⟨_,H,I',h⟩) hf)
noncomputable def gNil:TGs:=fun vs σ H Q=>vs = [] ∧ Q σ H
noncomputable def gCons (t:TG) (u:TGs):TGs:=fun vs σ H Q=>∃ v r,vs = v :: r ∧ t v σ H fun σ' H'=>u r σ' H' Q
theorem pgs_nil:PGs X [] gNil:=by
  intro pins s σ H vs us Q I r h
  revert h
  refine fun zqq=>L2.o_A zqq fun e h=>?_
  clear zqq
  subst e
  cases r
  exact assignInOrder_nil ⟨σ,H,I,h⟩
theorem pgs_cons {e:Expr} {es:List Expr} {t:TG} {u:TGs} (h1:PG X e t) (h2:PGs X es u)
    (hs:autoParam ((assignEach (e :: es) X.env).map (·.2) = assign e X.env :: (assignEach es X.env).map (·.2)) L2.ar._auto_1):PGs X (e :: es) (gCons t u):=by
  intro pins s σ H vs us Q I r h
  revert h
  refine fun zqq=>L2.o_EEA zqq fun v vr e1 h=>?_
  clear zqq
  subst e1
  cases r with
  | cons r rr=>
    rw [hs]
    refine assignInOrder_cons (thn (h1 pins s σ H _ _ _ I r h) fun _ s1 zpat=>?_)
    refine L2.o_EEA (zpat) fun σ1 H1 I1 q1=>?_
    exact h2 pins s1 σ1 H1 _ _ Q I1 rr q1
noncomputable def gTup (K:PySem.W.Frag) (n:Nat) (t:TGs):TG:=fun v σ H Q=>∃ a xs,v = .ref a ∧ SqT K H a xs ∧ xs.length = n ∧ t xs σ H Q
theorem pg_tup {es:List Expr} {k:Nat} {t:TGs} {n:Nat} (hc:X.calm = true) (h:PGs X es t)
    (hn:autoParam ((assignEach es X.env).length = n) L2.ar._auto_1) (hst:autoParam ((assignEach es X.env).findIdx? (·.1) = none) L2.ar._auto_1):PG X (.Tuple es k pos) (gTup X.K n t):=by
  intro pins s σ H v u Q I r hw
  revert hw
  refine fun zqq=>L2.o_EEAAA zqq fun a xs e1 hq hl hw=>?_
  clear zqq
  subst e1
  cases r
  refine L2.o_EAA (I.tuple hq) fun its rv ht hz=>?_
  refine assign_Tuple_tuple (I.ok.hd hc) ht (by simp [hn,← hl,rv.length]) hst fun h' hx=>?_
  have I1:Inv X pins σ H { s with heap:=h' }:=I.kept (t':=s.toks) fun b o e=>hx b o (Nat.ne_of_lt (Heap.lt_size e)) e
  exact h pins _ σ H xs _ Q I1 (by simpa using rv) hw
noncomputable def gSub (to ti:TE) (t:TSet):TG:=fun v σ H Q=>to σ H fun o H1=>ti σ H1 fun i H2=>t o i v H2 fun H3=>Q σ H3
theorem pg_sub {o i:Expr} {to ti:TE} {t:TSet} (ho:PE X o to) (hi:PE X i ti) (hs:PSet X t)
    (ha:∀ v,assign (.Subscript o i pos) X.env v = (do
      let ov ← holding [v] (eval o X.env)
      let iv ← holding [v,ov] (eval i X.env)
      standAt pos
      holding [v,ov,iv] (setItem ov iv v)
      release [v,ov,iv] []):=by intro _; rfl):PG X (.Subscript o i pos) (gSub to ti t):=by
  intro pins s σ H v u Q I r h
  rw [ha]
  refine wpAny_bind (wpAny_holding (thn (ho pins s σ H _ I h) fun ov s1 zpat=>?_))
  obtain ⟨x,H1,I1,r1,q1⟩:=zpat
  refine wpAny_bind (wpAny_holding (thn (hi pins s1 σ H1 _ I1 q1) fun iv s2 zpat=>?_))
  obtain ⟨y,H2,I2,r2,q2⟩:=zpat
  refine wpAny_bind (wpAny_standAt (wpAny_bind (wpAny_holding (thn (hs pins s2 σ H2 x y v ov iv u _ I2 r1 r2 r q2) fun _ s3 zpat=>?_))))
  refine L2.o_EA (zpat) fun H3 I3 q3=>?_
  exact wpAny_release ⟨σ,H3,I3,q3⟩
noncomputable def tAsg (te:TE) (g:TG):TS:=fun D σ H=>te σ H fun x H1=>g x σ H1 D.nx
theorem ps_asg {tg e:Expr} {te:TE} {g:TG} (he:PE X e te) (hg:PG X tg g) (hs:autoParam (swapsWithSole [tg] e pos.line X.env = pure false) L2.ar._auto_1) (hw:autoParam (swappedStores [tg] e X.env = pure none) L2.ar._auto_1)
    (h1:autoParam ((assignEach [tg] X.env).map (·.2) = [assign tg X.env]) L2.ar._auto_1):PS X (.Assign [tg] e pos) (tAsg te g):=by
  intro pins s σ H D I h
  refine wpAny_Assign_stores (thn (he pins s σ H _ I h) fun v s1 ⟨x,H1,I1,r1,q1⟩=>?_) hs hw
  rw [h1]
  exact thn (hg pins s1 σ H1 x v _ I1 r1 q1) fun _ s2 q=>q
theorem ps_set {i:Nat} {x:Str} {e:Expr} {te:TE} {pos':Pos} (hN:X.N.Nodup) (hi:X.N[i]? = some x) (hx:Loc X.env.scope x) (he:PE X e te) (hs:autoParam (swapsWith e (some (.Name x pos')) pos.line X.env = pure false) L2.ar._auto_1) (hf:X.fn x = true ∨ X.env.scope.names.lookup x = some .local:=by first | exact .inl rfl | exact .inr rfl | assumption) :
    PS X (.Assign [.Name x pos'] e pos) (tAsg te (gName i)):=by
  intro pins s σ H D I h
  refine wpAny_Assign_Name (thn (he pins s σ H _ I h) fun v s1 ⟨y,H1,I1,r1,q1⟩=>?_) hs
  exact store_ok I1 hN hi hx r1 (fun s2 I2=>⟨_,H1,I2,q1⟩) hf
end
section
variable {X:Cx} {pos:Pos}
noncomputable def tWhile (c:TT) (tb:TS):TS:=fun D σ H=>∃ W:Nat → St → Hp → Prop,(∃ m,W m σ H) ∧ ∀ m σ H,W m σ H →
  c σ H fun b H1=>if b = true then ∃ N:St → Hp → Prop,(∀ σ' H',N σ' H' → ∃ m',m' < m ∧ W m' σ' H') ∧ tb { D with nx:=N,ct:=N,bk:=D.nx } σ H1 else D.nx σ H1
theorem ps_while {c:Expr} {body:List Stmt} {tc:TT} {tb:TS} (hp:PassesOwn (model X.prog X.w) X.A X.env X.xe) (hc:PT X c tc) (hb:PSs X body tb):PS X (.While c body [] pos) (tWhile tc tb):=by
  intro pins s σ H D I h
  obtain ⟨W,⟨m0,w0⟩,turn⟩:=h
  refine wpAny_While (codeAny_whileLoop (fun n s'=>∃ σ' H',Inv X pins σ' H' s' ∧ W n σ' H') ?_ m0 ⟨σ,H,I,w0⟩)
  rintro n s1 ⟨σ1,H1,I1,w1⟩
  refine wpAny_passesOwn hp (thn (hc pins s1 σ1 H1 _ I1 (turn n σ1 H1 w1)) fun b s2 zpat=>?_)
  obtain ⟨H2,I2,q2⟩:=zpat
  cases b with
  | true=>
    revert q2
    refine fun zqq=>L2.o_EA zqq fun N hN q2=>?_
    clear zqq
    rw [if_pos rfl]
    refine wpAny_passesOwn hp (thn (hb pins s2 σ1 H2 _ I2 q2) fun f s3 q3=>?_)
    cases f with
    | next=>
      refine L2.o_EEA (q3) fun σ3 H3 I3 n3=>?_
      refine L2.o_EA (hN σ3 H3 n3) fun m' hm w3=>?_
      exact L2.i_EAEEA (m') (hm) (σ3) (H3) (I3) (w3)
    | cont=>
      refine L2.o_EEA (q3) fun σ3 H3 I3 n3=>?_
      refine L2.o_EA (hN σ3 H3 n3) fun m' hm w3=>?_
      exact L2.i_EAEEA (m') (hm) (σ3) (H3) (I3) (w3)
    | brk=>exact q3
    | ret v=>exact q3
  | false=>
    rw [if_neg Bool.false_ne_true]
    exact wpAny_execs_nil ⟨σ1,H2,I2,q2⟩
end
structure It where
  go:Nat → Hp → Prop
  yld:Nat → Hp → V → Hp → Prop
  stop:Nat → Hp → Prop
noncomputable def FpOk (X:Cx) (pins:List (Addr × Obj)) (H:Hp) (b:Addr):Prop:=
  H b = none ∧ b ≠ X.env.locals ∧ b ∉ X.fs ∧ (b ∈ X.ex ∨ X.s₀.heap.objs.size ≤ b) ∧ (∀ x c,X.env.cells.lookup x = some c → c ≠ b) ∧ ∀ p ∈ X.pn ++ pins,p.1 ≠ b
theorem Inv.fpOk {X:Cx} {pins:List (Addr × Obj)} {σ:St} {H H':Hp} {s:Shared} {b:Addr} (I:Inv X pins σ H s) (hb:s.heap.objs.size ≤ b) (hn:H' b = none):FpOk X pins H' b:=by
  refine ⟨hn,Nat.ne_of_gt (Nat.lt_of_lt_of_le I.lt hb),I.nofs hb,.inr (Nat.le_trans I.sz hb),fun x c e z=>?_,fun p hp z=>?_⟩
  · refine L2.o_E (I.cell x c e) fun v q=>?_
    exact absurd (Nat.lt_of_lt_of_le q.lt (by rw [z]; exact hb)) (Nat.lt_irrefl _)
  · exact absurd (Nat.lt_of_lt_of_le (Heap.lt_size (I.pin p hp).1) (by rw [z]; exact hb)) (Nat.lt_irrefl _)
structure Turn (P:Program) (w:World) (K:PySem.W.Frag) (tg:Expr) (J:It) (fp:List Addr) (it:Addr) (tn:Nat → Heap → Prop):Prop where
  mem:it ∈ fp
  obj:∀ i h,tn i h → ∀ b ∈ fp,∃ o,h.get? b = some o ∧ ∀ v,o.data ≠ .cell v
  keep:∀ i h h',tn i h → (∀ b ∈ fp,∀ o,h.get? b = some o → h'.get? b = some o) → tn i h'
  item:∀ (X:Cx),X.prog = P → X.w = w → X.K = K → X.calm = true → ∀ (i:Nat) (pins:List (Addr × Obj)) (s:Shared) (σ:St) (H:Hp) (E:Value → Shared → Prop),Inv X pins σ H s → (∀ b ∈ fp,FpOk X pins H b) → tn i s.heap → J.go i H →
    wpAny (model P w) X.A (pyNext (.ref it)) (fun r s1=>∃ u,r = some u ∧
      wpAny (model P w) X.A (letOwnedTupleGo tg (.ref it) u) (fun _ s2=>∃ x H',Inv X pins σ H' s2 ∧ RelV x u ∧ J.yld i H x H' ∧ tn (i + 1) s2.heap ∧ ∀ b ∈ fp,H' b = none) E s1) E s
  done:∀ (X:Cx),X.prog = P → X.w = w → X.K = K → X.calm = true → ∀ (i:Nat) (pins:List (Addr × Obj)) (s:Shared) (σ:St) (H:Hp) (E:Value → Shared → Prop),Inv X pins σ H s → (∀ b ∈ fp,FpOk X pins H b) → tn i s.heap → J.stop i H →
    wpAny (model P w) X.A (pyNext (.ref it)) (fun r s1=>r = none ∧ Inv X pins σ H s1) E s
  self:∀ (A:Around) (i:Nat) (s:Shared) (Q:Value → Shared → Prop) (E:Value → Shared → Prop),tn i s.heap → Q (.ref it) s → wpAny (model P w) A (pyIter (.ref it)) Q E s
noncomputable abbrev TI:=St → Hp → (It → Hp → Prop) → Prop
noncomputable def PIE (X:Cx) (pins:List (Addr × Obj)) (σ:St) (tg:Expr) (R:It → Hp → Prop) (itv:Value) (s2:Shared):Prop:=
  ∃ (it:Addr) (fp:List Addr) (tn:Nat → Heap → Prop) (J:It) (H':Hp),itv = .ref it ∧ Inv X pins σ H' s2 ∧ Turn X.prog X.w X.K tg J fp it tn ∧ tn 0 s2.heap ∧ (∀ b ∈ fp,FpOk X pins H' b) ∧ R J H'
noncomputable def PI (X:Cx) (tg iter:Expr) (wi:TI):Prop:=
  ∀ (pins:List (Addr × Obj)) (s:Shared) (σ:St) (H:Hp) (R:It → Hp → Prop),Inv X pins σ H s → wi σ H R →
    wpAny (model X.prog X.w) X.A (eval iter X.env) (fun v s1=>wpAny (model X.prog X.w) X.A (pyIter v) (PIE X pins σ tg R) X.xe s1) X.xe s
theorem go_of {M:Model} {A:Around} {E:Value → Shared → Prop} {s:Shared} {tg:Expr} {it:Addr} {u:Value} {o:Obj} {n:String} {vs:Array Value} {Q:Unit → Shared → Prop} (ho:s.heap.get? it = some o) (hc:o.cls = .type n) (hd:o.data = .fields vs)
    (hn:["enumerate","zip","dict_itemiterator","dict_reverseitemiterator","odict_iterator","itertools.zip_longest","itertools.pairwise"].contains n = false) (hQ:Q () s):wpAny M A (letOwnedTupleGo tg (.ref it) u) Q E s:=by
  unfold letOwnedTupleGo
  cases tg <;> first
    | exact wpAny_pure hQ
    | (cases u <;> first
        | exact wpAny_pure hQ
        | (refine wpAny_bind (wpAny_load ho ?_)
           rw [hc,hd]
           show wpAny M A (if (["enumerate","zip","dict_itemiterator","dict_reverseitemiterator","odict_iterator","itertools.zip_longest","itertools.pairwise"].contains n && vs[0]? == some (rawInt _)) = true then _ else _) Q E s
           rw [if_neg (by intro h; rw [hn,Bool.false_and] at h; cases h)]
           exact wpAny_pure hQ))
noncomputable def Itl (K:PySem.W.Frag) (a:Addr):It:=
  ⟨fun i H=>∃ xs x,SqL K H a xs ∧ xs[i]? = some x,fun i H x H'=>H' = H ∧ ∀ xs,SqL K H a xs → xs[i]? = some x,fun i H=>∃ xs,SqL K H a xs ∧ xs.length ≤ i⟩
noncomputable def Itt (K:PySem.W.Frag) (a:Addr):It:=
  ⟨fun i H=>∃ xs x,SqT K H a xs ∧ xs[i]? = some x,fun i H x H'=>H' = H ∧ ∀ xs,SqT K H a xs → xs[i]? = some x,fun i H=>∃ xs,SqT K H a xs ∧ xs.length ≤ i⟩
noncomputable def Itr (lo:Int) (n:Nat):It:=⟨fun i _=>i < n,fun i H x H'=>H' = H ∧ x = .int (lo + i),fun i _=>n ≤ i⟩
theorem turn_list {P:Program} {w:World} {K:PySem.W.Frag} {tg:Expr} (a it:Addr):Turn P w K tg (Itl K a) [it] it (fun i h=>h.IsListIter it a i) where
  mem:=by simp
  obj:=fun i h st b hb=>by
    have e:b = it:=by simpa using hb
    subst e
    refine L2.o_EAA (st) fun o e c d=>?_
    exact ⟨o,e,fun v z=>by rw [d] at z; cases z⟩
  keep:=fun i h h' st k=>st.at fun o e=>k it (by simp) o e
  item:=by
    intro X hP hw hK hc i pins s σ H E I hf st hg
    subst hP hw hK
    refine L2.o_EEA (hg) fun xs x hq hx=>?_
    refine L2.o_EAA (I.list hq) fun its rv p hz=>?_
    refine L2.o_EA (rv.get hx) fun u hu ru=>?_
    refine L2.o_AAAAA (hf it (by simp)) fun f0 f1 f2 f3 f4 f5=>?_
    refine wpAny_pyNext_list_item st p.isList (x:=u) (by simpa using hu) fun h' st' sb=>?_
    have I1:Inv X pins σ H { s with heap:=h' }:=I.turned (t':=s.toks) (fun b o hb e=>(sb.2 b hb).trans e) f0 f1 f3 f4 f5
    refine L2.o_EAA (id st') fun o e c d=>?_
    exact ⟨u,rfl,go_of (s:={ s with heap:=h' }) e c d (by decide) ⟨x,H,I1,ru,⟨rfl,fun ys hy=>by rw [I.list_inj hy hq]; exact hx⟩,st',fun b hb=>(hf b hb).1⟩⟩
  done:=by
    intro X hP hw hK hc i pins s σ H E I hf st hg
    subst hP hw hK
    refine L2.o_EA (hg) fun xs hq hx=>?_
    refine L2.o_EAA (I.list hq) fun its rv p hz=>?_
    refine L2.o_AAAAA (hf it (by simp)) fun f0 f1 f2 f3 f4 f5=>?_
    have hl:=rv.length
    exact wpAny_pyNext_list_end (I.ok.hd hc) st p.isList (by simp; (clear f3 hz; omega)) fun h' eb=>⟨rfl,I.turned (t':=s.toks) (fun b o hb e=>eb b o hb e) f0 f1 f3 f4 f5⟩
  self:=fun _ _ _ _ _ st h=>wpAny_pyIter_listiter st h
theorem turn_tuple {P:Program} {w:World} {K:PySem.W.Frag} {tg:Expr} (a it:Addr):Turn P w K tg (Itt K a) [it] it (fun i h=>h.IsTupleIter it a i) where
  mem:=by simp
  obj:=fun i h st b hb=>by
    have e:b = it:=by simpa using hb
    subst e
    refine L2.o_EAA (st) fun o e c d=>?_
    exact ⟨o,e,fun v z=>by rw [d] at z; cases z⟩
  keep:=fun i h h' st k=>st.at fun o e=>k it (by simp) o e
  item:=by
    intro X hP hw hK hc i pins s σ H E I hf st hg
    subst hP hw hK
    refine L2.o_EEA (hg) fun xs x hq hx=>?_
    refine L2.o_EAA (I.tuple hq) fun its rv p hz=>?_
    refine L2.o_EA (rv.get hx) fun u hu ru=>?_
    refine L2.o_AAAAA (hf it (by simp)) fun f0 f1 f2 f3 f4 f5=>?_
    refine wpAny_pyNext_tuple_item st (show s.heap.IsTuple a its.toArray from p) (x:=u) (by simpa using hu) fun h' st' sb=>?_
    have I1:Inv X pins σ H { s with heap:=h' }:=I.turned (t':=s.toks) (fun b o hb e=>(sb.2 b hb).trans e) f0 f1 f3 f4 f5
    refine L2.o_EAA (id st') fun o e c d=>?_
    exact ⟨u,rfl,go_of (s:={ s with heap:=h' }) e c d (by decide) ⟨x,H,I1,ru,⟨rfl,fun ys hy=>by rw [I.tuple_inj hy hq]; exact hx⟩,st',fun b hb=>(hf b hb).1⟩⟩
  done:=by
    intro X hP hw hK hc i pins s σ H E I hf st hg
    subst hP hw hK
    refine L2.o_EA (hg) fun xs hq hx=>?_
    refine L2.o_EAA (I.tuple hq) fun its rv p hz=>?_
    refine L2.o_AAAAA (hf it (by simp)) fun f0 f1 f2 f3 f4 f5=>?_
    have hl:=rv.length
    exact wpAny_pyNext_tuple_end (I.ok.hd hc) st (show s.heap.IsTuple a its.toArray from p) (by simp; (clear f3 hz; omega)) fun h' eb=>⟨rfl,I.turned (t':=s.toks) (fun b o hb e=>eb b o hb e) f0 f1 f3 f4 f5⟩
  self:=fun _ _ _ _ _ st h=>wpAny_pyIter_tupleiter st h
theorem turn_range {P:Program} {w:World} {K:PySem.W.Frag} {tg:Expr} (it:Addr) (lo:Int) (n:Nat):Turn P w K tg (Itr lo n) [it] it (fun i h=>IsRangeIter h it (lo + (i:Nat) * 1) ((n:Int) - (i:Nat)) 1) where
  mem:=by simp
  obj:=fun i h st b hb=>by
    have e:b = it:=by simpa using hb
    subst e
    exact ⟨_,st,fun v z=>by
      have z':Data.fields _ = Data.cell v:=z
      cases z'⟩
  keep:=fun i h h' st k=>k it (by simp) _ st
  item:=by
    intro X hP hw hK hc i pins s σ H E I hf st hg
    subst hP hw hK
    refine L2.o_AAAAA (hf it (by simp)) fun f0 f1 f2 f3 f4 f5=>?_
    have W:=Walks.range (prog:=X.prog) (w:=X.w) (I.ok.hd hc) it lo 1 n
    refine W.item i s _ _ hg st fun v h' tk hv st' kk=>?_
    revert hv
    refine fun zqq=>L2.o_E zqq fun t zq1=>?_
    clear zqq
    subst zq1
    have I1:Inv X pins σ H { s with heap:=h',toks:=tk }:=I.turned (fun b o hb e=>kk b o (by simpa using hb) e) f0 f1 f3 f4 f5
    refine ⟨_,rfl,go_of (s:={ s with heap:=h',toks:=tk }) (n:="range_iterator") st' rfl rfl (by decide) ⟨.int (lo + i),H,I1,⟨t,?_⟩,⟨rfl,rfl⟩,st',fun b hb=>(hf b hb).1⟩⟩
    rw [Int.mul_one]
  done:=by
    intro X hP hw hK hc i pins s σ H E I hf st hg
    subst hP hw hK
    refine L2.o_AAAAA (hf it (by simp)) fun f0 f1 f2 f3 f4 f5=>?_
    exact wpAny_pyNext_range_end (I.ok.hd hc) st (by have:n ≤ i:=hg; (clear f3; omega)) fun h' eb=>⟨rfl,I.turned (t':=s.toks) (fun b o hb e=>eb b o hb e) f0 f1 f3 f4 f5⟩
  self:=fun _ _ _ _ _ st h=>wpAny_pyIter_rangeiter st h
end L2
namespace L2
open PySem PySem.Spec PyProof.Rows
section
variable {X:Cx} {tg:Expr}
noncomputable def iList (K:PySem.W.Frag) (tl:TE):TI:=fun σ H R=>tl σ H fun x H1=>∃ a,x = .ref a ∧ (∃ xs,SqL K H1 a xs) ∧ R (Itl K a) H1
noncomputable def iTup (K:PySem.W.Frag) (tl:TE):TI:=fun σ H R=>tl σ H fun x H1=>∃ a,x = .ref a ∧ (∃ xs,SqT K H1 a xs) ∧ R (Itt K a) H1
theorem pi_list {l:Expr} {tl:TE} (hl:PE X l tl):PI X tg l (iList X.K tl):=by
  intro pins s σ H R I h
  refine thn (hl pins s σ H _ I h) fun v s1 zpat=>?_
  obtain ⟨x,H1,I1,r1,q1⟩:=zpat
  obtain ⟨a,e,⟨xs,hq⟩,q⟩:=q1
  subst e
  cases r1
  refine L2.o_EAA (I1.list hq) fun its rv p hz=>?_
  refine wpAny_pyIter_list p.isList ?_
  refine L2.i_EEEEEAAAAA (s1.heap.objs.size) ([s1.heap.objs.size]) (_) (_) (H1) (rfl) (I1.kept (t':=s1.toks) fun b o e=>Heap.get?_push_of_some _ e) (turn_list a _) (⟨_,Heap.get?_push_size _ rfl,rfl,rfl⟩) (fun b hb=>?_) (q)
  have e:b = s1.heap.objs.size:=by simpa using hb
  subst e
  exact I1.fpOk (Nat.le_refl _) (I1.hok.fresh (Nat.le_refl _))
theorem pi_tup {l:Expr} {tl:TE} (hl:PE X l tl):PI X tg l (iTup X.K tl):=by
  intro pins s σ H R I h
  refine thn (hl pins s σ H _ I h) fun v s1 zpat=>?_
  obtain ⟨x,H1,I1,r1,q1⟩:=zpat
  obtain ⟨a,e,⟨xs,hq⟩,q⟩:=q1
  subst e
  cases r1
  refine L2.o_EAA (I1.tuple hq) fun its rv p hz=>?_
  refine wpAny_pyIter_tuple (show s1.heap.IsTuple a its.toArray from p) ?_
  refine L2.i_EEEEEAAAAA (s1.heap.objs.size) ([s1.heap.objs.size]) (_) (_) (H1) (rfl) (I1.kept (t':=s1.toks) fun b o e=>Heap.get?_push_of_some _ e) (turn_tuple a _) (⟨_,Heap.get?_push_size _ rfl,rfl,rfl⟩) (fun b hb=>?_) (q)
  have e:b = s1.heap.objs.size:=by simpa using hb
  subst e
  exact I1.fpOk (Nat.le_refl _) (I1.hok.fresh (Nat.le_refl _))
theorem range_it {pins:List (Addr × Obj)} {σ:St} {H:Hp} {s:Shared} {R:It → Hp → Prop} {E:Value → Shared → Prop} {lo hi:Int} {t u v:Tok} {tk:Nat} (I:Inv X pins σ H s) (h1:-(2 ^ 62) ≤ lo) (h2:lo < 2 ^ 62) (h3:-(2 ^ 62) ≤ hi) (h4:hi < 2 ^ 62)
    (q:R (Itr lo (hi - lo).toNat) H):wpAny (model X.prog X.w) X.A (pyIter (.ref s.heap.objs.size)) (PIE X pins σ tg R) E { s with heap:=s.heap.push { cls:=.type "range",data:=.fields #[.int lo t,.int hi u,.int 1 v] },toks:=tk }:=by
  refine wpAny_pyIter_range (IsRange.new ..) (small_one h1 h2 h3 h4) ?_
  have I1:Inv X pins σ H { s with heap:=s.heap.push { cls:=.type "range",data:=.fields #[.int lo t,.int hi u,.int 1 v] },toks:=tk }:=I.kept fun b o e=>Heap.get?_push_of_some _ e
  refine ⟨(s.heap.push { cls:=.type "range",data:=.fields #[.int lo t,.int hi u,.int 1 v] }).objs.size,[(s.heap.push { cls:=.type "range",data:=.fields #[.int lo t,.int hi u,.int 1 v] }).objs.size],_,_,H,rfl,
    I1.kept (t':=tk) fun b o e=>Heap.get?_push_of_some _ e,turn_range _ lo (hi - lo).toNat,?_,fun b hb=>?_,q⟩
  · have e1:lo + ((0:Nat):Int) * 1 = lo:=by simp
    have e2:(((hi - lo).toNat:Nat):Int) - ((0:Nat):Int) = Builtin.Range.rangeSize lo hi 1:=by rw [rangeSize_one]; split <;> (clear e1 h4 h3 h2 h1; omega)
    show IsRangeIter _ _ (lo + ((0:Nat):Int) * 1) ((((hi - lo).toNat:Nat):Int) - ((0:Nat):Int)) 1
    rw [e1,e2]
    exact Heap.get?_push_size _ rfl
  · have e:b = (s.heap.push { cls:=.type "range",data:=.fields #[.int lo t,.int hi u,.int 1 v] }).objs.size:=by simpa using hb
    subst e
    exact I1.fpOk (Nat.le_refl _) (I1.hok.fresh (Nat.le_refl _))
noncomputable def iRng1 (ta:TA):TI:=fun σ H R=>ta σ H fun vs H1=>∃ j:Int,vs = [.int j] ∧ -(2 ^ 62) ≤ j ∧ j < 2 ^ 62 ∧ R (Itr 0 j.toNat) H1
theorem pi_range1 {a:Expr} {ta:TA} {p pos:Pos} (hg:Gl X "range") (hm:X.mg "range" = none) (ha:PA X [a] ta) (hs:autoParam (starEach [a] X.env = [(false,eval a X.env)]) L2.ar._auto_1):PI X tg (.Call (.Name "range" p) [a] [] pos) (iRng1 ta):=by
  intro pins s σ H R I h
  refine Call_ (ld_blt I hg hm boot_range (PyProof.Rows.callWith_type1 (thn (ha pos pins s σ H _ I h) fun us s1 ⟨vs,H1,I1,r1,q1⟩=>?_) hs rfl))
  revert q1
  refine fun zqq=>L2.o_EAAA zqq fun j e q1 q2 q=>?_
  clear zqq
  subst e
  cases r1 with
  | cons r rr=>
    cases rr
    revert r
    refine fun zqq=>L2.o_E zqq fun t zq1=>?_
    clear zqq
    subst zq1
    exact call_range_1 (range_it I1 (by (clear q2 q1; omega)) (by (clear q2 q1; omega)) q1 q2 (by simpa using q))
noncomputable def tFor (wi:TI) (g:TG) (tb:TS):TS:=fun D σ H=>wi σ H fun J H1=>∃ W:Nat → Nat → St → Hp → Prop,(∃ m,W 0 m σ H1) ∧ ∀ i m σ H,W i m σ H →
  (J.stop i H ∧ D.nx σ H) ∨ (J.go i H ∧ ∃ N:St → Hp → Prop,(∀ σ' H',N σ' H' → ∃ m',m' < m ∧ W (i + 1) m' σ' H') ∧ ∀ x H',J.yld i H x H' → g x σ H' fun σ2 H2=>tb { D with nx:=N,ct:=N,bk:=D.nx } σ2 H2)
noncomputable def pinsAt (fp:List Addr) (h:Heap):List (Addr × Obj):=fp.filterMap fun b=>(h.get? b).map fun o=>(b,o)
theorem mem_pinsAt {fp:List Addr} {h:Heap} {b:Addr} {o:Obj} (hb:b ∈ fp) (e:h.get? b = some o):(b,o) ∈ pinsAt fp h:=List.mem_filterMap.mpr ⟨b,hb,by rw [e]; rfl⟩
theorem of_pinsAt {fp:List Addr} {h:Heap} {p:Addr × Obj} (hp:p ∈ pinsAt fp h):p.1 ∈ fp ∧ h.get? p.1 = some p.2:=by
  refine L2.o_EA (List.mem_filterMap.mp hp) fun b hb e=>?_
  cases q:h.get? b with
  | none=>rw [q] at e; cases e
  | some o=>
    rw [q] at e
    have e':(b,o) = p:=Option.some.inj e
    subst e'
    exact ⟨hb,q⟩
theorem Inv.pinned {pins:List (Addr × Obj)} {σ:St} {H:Hp} {s:Shared} {fp:List Addr} (I:Inv X pins σ H s) (hf:∀ b ∈ fp,FpOk X pins H b) (ho:∀ b ∈ fp,∃ o,s.heap.get? b = some o ∧ ∀ v,o.data ≠ .cell v):Inv X (pins ++ pinsAt fp s.heap) σ H s:=
  I.pins_of fun p hp=>(List.mem_append.mp hp).elim (fun z=>I.pin p (List.mem_append_right _ z)) fun z=>by
    refine L2.o_A (of_pinsAt z) fun hb e=>?_
    refine L2.o_AAA (hf p.1 hb) fun f0 f1 f2 _=>?_
    refine L2.o_EA (ho p.1 hb) fun o e' d=>?_
    rw [e] at e'; cases e'
    exact ⟨e,f0,f1,f2,d⟩
theorem Inv.unpinned {pins pl:List (Addr × Obj)} {σ:St} {H:Hp} {s:Shared} (I:Inv X (pins ++ pl) σ H s):Inv X pins σ H s:=I.pins_of fun p hp=>I.pin p (List.mem_append_right _ (List.mem_append_left _ hp))
theorem ps_for {iter:Expr} {body:List Stmt} {wi:TI} {g:TG} {tb:TS} {pos:Pos} (hp:PassesOwn (model X.prog X.w) X.A X.env X.xe) (hc:X.calm = true) (hi:PI X tg iter wi) (hg:PG X tg g) (hb:PSs X body tb)
    (hs:∀ x,foldedSetIterable iter X.env x = pure x:=by intro _; rfl):PS X (.For tg iter body [] pos) (tFor wi g tb):=by
  intro pins s σ H D I h
  refine wpAny_For (thn (hi pins s σ H _ I h) fun v s1 h1=>thn h1 fun itv s2 h2=>?_) hs
  obtain ⟨it,fp,tn,J,H2,e,I2,T,st2,f2,W,⟨m0,w0⟩,turn⟩:=h2
  subst e
  have stat:∀ {H':Hp},(∀ b ∈ fp,H' b = none) → ∀ b ∈ fp,FpOk X pins H' b:=fun hn b hb=>⟨hn b hb,(f2 b hb).2⟩
  refine codeAny_forLoop_any (fun n s'=>∃ i σ' H',Inv X pins σ' H' s' ∧ tn i s'.heap ∧ (∀ b ∈ fp,H' b = none) ∧ W i n σ' H') ?_ m0 ⟨0,σ,H2,I2,st2,fun b hb=>(f2 b hb).1,w0⟩
  rintro n s3 ⟨i,σ3,H3,I3,st3,fr3,w3⟩
  rcases turn i n σ3 H3 w3 with ⟨stop,qn⟩ | ⟨go,N,hN,step⟩
  · refine wpAny_passesOwn hp (thn (T.done X rfl rfl rfl hc i pins s3 σ3 H3 X.xe I3 (stat fr3) st3 stop) fun r s4 zpat=>?_)
    refine L2.o_A (zpat) fun hr I4=>?_
    subst hr
    exact wpAny_execs_nil ⟨σ3,H3,I4,qn⟩
  · refine wpAny_passesOwn hp (thn (T.item X rfl rfl rfl hc i pins s3 σ3 H3 X.xe I3 (stat fr3) st3 go) fun r s4 zpat=>?_)
    refine L2.o_EA (zpat) fun u hr h4=>?_
    subst hr
    refine wpAny_passesOwn hp (thn h4 fun _ s5 zpat=>?_)
    refine L2.o_EEAAAA (zpat) fun x H5 I5 r5 y5 st5 fr5=>?_
    have I5':=I5.pinned (stat fr5) (T.obj _ _ st5)
    refine wpAny_passesOwn hp (thn (hg _ s5 σ3 H5 x u _ I5' r5 (step x H5 y5)) fun _ s6 zpat=>?_)
    refine L2.o_EEA (zpat) fun σ6 H6 I6 q6=>?_
    refine wpAny_passesOwn hp (thn (hb _ s6 σ6 H6 _ I6 q6) fun f s7 q7=>?_)
    have again:∀ {σ7:St} {H7:Hp},Inv X (pins ++ pinsAt fp s5.heap) σ7 H7 s7 → N σ7 H7 → ∃ m,m < n ∧ ∃ i σ' H',Inv X pins σ' H' s7 ∧ tn i s7.heap ∧ (∀ b ∈ fp,H' b = none) ∧ W i m σ' H':=fun {σ7 H7} I7 n7=>by
      refine L2.o_EA (hN σ7 H7 n7) fun m' hm w7=>?_
      refine L2.i_EAEEEAAA (m') (hm) (i + 1) (σ7) (H7) (I7.unpinned) (T.keep _ _ _ st5 fun b hb o e=>(I7.pin (b,o) (List.mem_append_right _ (List.mem_append_right _ (mem_pinsAt hb e)))).1) (fun b hb=>?_) (w7)
      refine L2.o_EA (T.obj _ _ st5 b hb) fun o e d=>?_
      exact (I7.pin (b,o) (List.mem_append_right _ (List.mem_append_right _ (mem_pinsAt hb e)))).2.1
    cases f with
    | next=>obtain ⟨σ7,H7,I7,n7⟩:=q7; exact again I7 n7
    | cont=>obtain ⟨σ7,H7,I7,n7⟩:=q7; exact again I7 n7
    | brk=>obtain ⟨σ7,H7,I7,q7⟩:=q7; exact ⟨σ7,H7,I7.unpinned,q7⟩
    | ret v=>obtain ⟨x7,σ7,H7,I7,r7,q7⟩:=q7; exact ⟨x7,σ7,H7,I7.unpinned,r7,q7⟩
end
end L2
namespace L2
open PySem PySem.Spec PyProof.Rows
noncomputable abbrev R2:=V → V → Hp → VK → Prop
noncomputable def OpR (X:Cx) (f:Value → Value → Sem Value) (r:R2):Prop:=
  ∀ (pins:List (Addr × Obj)) (s:Shared) (σ:St) (H:Hp) (x y:V) (v u:Value) (Q:VK),Inv X pins σ H s → RelV x v → RelV y u → r x y H Q →
    wpAny (model X.prog X.w) X.A (f v u) (EP X pins σ Q) X.xe s
noncomputable def UnR (X:Cx) (f:Value → Sem Value) (r:V → Hp → VK → Prop):Prop:=
  ∀ (pins:List (Addr × Obj)) (s:Shared) (σ:St) (H:Hp) (x:V) (v:Value) (Q:VK),Inv X pins σ H s → RelV x v → r x H Q →
    wpAny (model X.prog X.w) X.A (f v) (EP X pins σ Q) X.xe s
noncomputable def CallR (X:Cx) (f:Value) (r:List V → Hp → VK → Prop):Prop:=
  ∀ (pins:List (Addr × Obj)) (s:Shared) (σ:St) (H:Hp) (xs:List V) (us:List Value) (Q:VK),Inv X pins σ H s → Vals xs us → r xs H Q →
    wpAny (model X.prog X.w) X.A (call f us) (EP X pins σ Q) X.xe s
noncomputable def tOp (r:R2) (ta tb:TE):TE:=fun σ H Q=>ta σ H fun x H1=>tb σ H1 fun y H2=>r x y H2 Q
noncomputable def tUn (r:V → Hp → VK → Prop) (ta:TE):TE:=fun σ H Q=>ta σ H fun x H1=>r x H1 Q
noncomputable def rI (C:Int → Int → Prop) (g:Int → Int → V):R2:=fun x y H Q=>∃ i j,x = .int i ∧ y = .int j ∧ C i j ∧ Q (g i j) H
noncomputable def rI0 (g:Int → Int → V):R2:=fun x y H Q=>∃ i j,x = .int i ∧ y = .int j ∧ Q (g i j) H
noncomputable def rU (g:Int → V):V → Hp → VK → Prop:=fun x H Q=>∃ i,x = .int i ∧ Q (g i) H
section
variable {X:Cx} {a b c:Expr} {ta tb tc:TE} {pos:Pos}
theorem binT (ha:PE X a ta) (hb:PE X b tb) {pins:List (Addr × Obj)} {s:Shared} {σ:St} {H:Hp} {R:V → V → Hp → Prop} (I:Inv X pins σ H s)
    (h:ta σ H fun x H1=>tb σ H1 fun y H2=>R x y H2) {Q:Value → Shared → Prop} {f:Value → Value → Sem Value}
    (hf:∀ v u s2 x y H2,Inv X pins σ H2 s2 → RelV x v → RelV y u → R x y H2 → wpAny (model X.prog X.w) X.A (f v u) Q X.xe s2) :
    wpAny (model X.prog X.w) X.A (eval a X.env) (fun v s₁=>wpAny (model X.prog X.w) X.A (eval b X.env) (fun u s₂=>wpAny (model X.prog X.w) X.A (f v u) Q X.xe s₂) X.xe s₁) X.xe s:=by
  refine thn (ha pins s σ H _ I h) fun v s1 zpat=>?_
  obtain ⟨x,H1,I1,r1,q1⟩:=zpat
  refine thn (hb pins s1 σ H1 _ I1 q1) fun u s2 zpat=>?_
  obtain ⟨y,H2,I2,r2,q2⟩:=zpat
  exact hf v u s2 x y H2 I2 r1 r2 q2
theorem pe_op {op:Operator} {r:R2} (ho:OpR X (binaryOp op) r) (ha:PE X a ta) (hb:PE X b tb):PE X (.BinOp a op b pos) (tOp r ta tb):=by
  intro pins s σ H Q I h
  exact wpAny_BinOp (binT ha hb I h fun v u s2 x y H2 I2 rx ry q=>ho pins s2 σ H2 x y v u Q I2 rx ry q)
theorem pe_un {op:UnaryOp} {r:V → Hp → VK → Prop} (ho:UnR X (unaryOp op) r) (ha:PE X a ta):PE X (.UnaryOp op a pos) (tUn r ta):=by
  intro pins s σ H Q I h
  exact UnaryOp_ (thn (ha pins s σ H _ I h) fun v s1 ⟨x,H1,I1,r1,q1⟩=>ho pins s1 σ H1 x v Q I1 r1 q1)
theorem opI {f:Value → Value → Sem Value} {C:Int → Int → Prop} {g:Int → Int → Int}
    (rule:∀ (i j:Int) (t u:Tok) (s:Shared) (Q:Value → Shared → Prop) (E:Value → Shared → Prop),C i j → Q (.int (g i j) s.toks) { s with toks:=s.toks + 1 } → wpAny (model X.prog X.w) X.A (f (.int i t) (.int j u)) Q E s) :
    OpR X f (rI C fun i j=>.int (g i j)):=by
  intro pins s σ H x y v u Q I rx ry h
  revert h
  refine fun zqq=>L2.o_EEAAA zqq fun i j zq2 zq3 hc q=>?_
  clear zqq
  subst zq2
  subst zq3
  revert rx
  refine fun zqq=>L2.o_E zqq fun t zq1=>?_
  clear zqq
  subst zq1
  revert ry
  refine fun zqq=>L2.o_E zqq fun t' zq1=>?_
  clear zqq
  subst zq1
  exact rule i j t t' s _ _ hc ⟨.int (g i j),H,I.tok _,⟨_,rfl⟩,q⟩
theorem opI0 {f:Value → Value → Sem Value} {g:Int → Int → Int}
    (rule:∀ (i j:Int) (t u:Tok) (s:Shared) (Q:Value → Shared → Prop) (E:Value → Shared → Prop),Q (.int (g i j) s.toks) { s with toks:=s.toks + 1 } → wpAny (model X.prog X.w) X.A (f (.int i t) (.int j u)) Q E s) :
    OpR X f (rI0 fun i j=>.int (g i j)):=by
  intro pins s σ H x y v u Q I rx ry h
  revert h
  refine fun zqq=>L2.o_EEAA zqq fun i j zq2 zq3 q=>?_
  clear zqq
  subst zq2
  subst zq3
  revert rx
  refine fun zqq=>L2.o_E zqq fun t zq1=>?_
  clear zqq
  subst zq1
  revert ry
  refine fun zqq=>L2.o_E zqq fun t' zq1=>?_
  clear zqq
  subst zq1
  exact rule i j t t' s _ _ ⟨.int (g i j),H,I.tok _,⟨_,rfl⟩,q⟩
theorem opB0 {f:Value → Value → Sem Value} {g:Int → Int → Bool}
    (rule:∀ (i j:Int) (t u:Tok) (s:Shared) (Q:Value → Shared → Prop) (E:Value → Shared → Prop),Q (.bool (g i j)) s → wpAny (model X.prog X.w) X.A (f (.int i t) (.int j u)) Q E s) :
    OpR X f (rI0 fun i j=>.bl (g i j)):=by
  intro pins s σ H x y v u Q I rx ry h
  revert h
  refine fun zqq=>L2.o_EEAA zqq fun i j zq2 zq3 q=>?_
  clear zqq
  subst zq2
  subst zq3
  revert rx
  refine fun zqq=>L2.o_E zqq fun t zq1=>?_
  clear zqq
  subst zq1
  revert ry
  refine fun zqq=>L2.o_E zqq fun t' zq1=>?_
  clear zqq
  subst zq1
  exact rule i j t t' s _ _ ⟨.bl (g i j),H,I,rfl,q⟩
noncomputable def CPow (i j:Int):Prop:=0 ≤ j ∧ j ≤ 1000000 ∧ i.natAbs < 2 ^ 64
noncomputable def CMul (i j:Int):Prop:=(-(2 ^ 64) < i ∧ i < 2 ^ 64) ∨ (-(2 ^ 64) < j ∧ j < 2 ^ 64)
theorem CMul.ok {i j:Int} (h:CMul i j):IntMulOk i j:=by
  rcases h with ⟨h1,h2⟩ | ⟨h1,h2⟩
  · exact .of_left (intBits_le_64 h1 h2)
  · exact .of_right (intBits_le_64 h1 h2)
theorem op_add:OpR X (binaryOp .Add) (rI0 fun i j=>.int (i + j)):=opI0 fun _ _ _ _ _ _ _ q=>add_int q
theorem op_sub:OpR X (binaryOp .Sub) (rI0 fun i j=>.int (i - j)):=opI0 fun _ _ _ _ _ _ _ q=>sub_int q
theorem op_modN:OpR X (binaryOp .Mod) (rI (fun _ j=>j ≠ 0) fun i j=>.int (i.fmod j)):=opI fun _ _ _ _ _ _ _ hc q=>mod_int' hc q
theorem op_pow:OpR X (binaryOp .Pow) (rI CPow fun i j=>.int (i ^ j.toNat)):=opI fun _ _ _ _ _ _ _ hc q=>pow_int_small hc.1 hc.2.1 hc.2.2 q
theorem unI {f:Value → Sem Value} {g:Int → Int}
    (rule:∀ (i:Int) (t:Tok) (s:Shared) (Q:Value → Shared → Prop) (E:Value → Shared → Prop),Q (.int (g i) s.toks) { s with toks:=s.toks + 1 } → wpAny (model X.prog X.w) X.A (f (.int i t)) Q E s) :
    UnR X f (rU fun i=>.int (g i)):=by
  intro pins s σ H x v Q I rx h
  revert h
  refine fun zqq=>L2.o_EA zqq fun i zq1 q=>?_
  clear zqq
  subst zq1
  revert rx
  refine fun zqq=>L2.o_E zqq fun t zq1=>?_
  clear zqq
  subst zq1
  exact rule i t s _ _ ⟨.int (g i),H,I.tok _,⟨_,rfl⟩,q⟩
theorem un_neg:UnR X (unaryOp .USub) (rU fun i=>.int (-i)):=unI fun _ _ _ _ _ q=>neg_int q
end
section
variable {X:Cx} {a b c:Expr} {ta tb tc:TE} {pos:Pos}
theorem fin_bl {pins:List (Addr × Obj)} {σ:St} {H:Hp} {s:Shared} {Q:VK} {k k':Bool} (I:Inv X pins σ H s) (q:Q (.bl k) H) (e:k = k'):EP X pins σ Q (.bool k') s:=by
  subst e
  exact ⟨.bl k,H,I,rfl,q⟩
theorem op_lt:OpR X (compareOp .Lt) (rI0 fun i j=>.bl (decide (i < j))):=opB0 fun _ _ _ _ _ _ _ q=>lt_int q
theorem op_le:OpR X (compareOp .LtE) (rI0 fun i j=>.bl (decide (i ≤ j))):=opB0 fun _ _ _ _ _ _ _ q=>le_int q
theorem op_gt:OpR X (compareOp .Gt) (rI0 fun i j=>.bl (decide (j < i))):=opB0 fun _ _ _ _ _ _ _ q=>gt_int q
theorem op_ge:OpR X (compareOp .GtE) (rI0 fun i j=>.bl (decide (j ≤ i))):=opB0 fun _ _ _ _ _ _ _ q=>ge_int q
theorem nomark (b:Expr) {op:CmpOp} (h:autoParam (op ≠ .In) L2.ad._auto_1) (h2:autoParam (op ≠ .NotIn) L2.ad._auto_1):behindInMarks op b = false:=by
  have e1:(op == CmpOp.In) = false:=by cases op <;> first | rfl | exact absurd rfl h
  have e2:(op == CmpOp.NotIn) = false:=by cases op <;> first | rfl | exact absurd rfl h2
  cases b <;> simp [behindInMarks,e1,e2]
theorem pe_cmpR {op:CmpOp} {r:R2} (ho:OpR X (compareOp op) r) (ha:PE X a ta) (hb:PE X b tb) (hm:behindInMarks op b = false):PE X (.Compare a [op] [b] pos) (tOp r ta tb):=by
  intro pins s σ H Q I h
  exact wpAny_Compare1 (binT ha hb I h fun v u s2 x y H2 I2 rx ry q=>ho pins s2 σ H2 x y v u Q I2 rx ry q) hm
noncomputable def tTest (t:TE):TT:=fun σ H Q=>t σ H fun x H'=>∃ k,x = .bl k ∧ Q k H'
theorem pt_cmpR {op:CmpOp} {r:R2} (ho:OpR X (compareOp op) r) (ha:PE X a ta) (hb:PE X b tb) (hm:behindInMarks op b = false):PT X (.Compare a [op] [b] pos) (tTest (tOp r ta tb)):=by
  intro pins s σ H Q I h
  refine wpAny_isTrue_Compare1 (thn (ha pins s σ H _ I h) fun v s1 ⟨x,H1,I1,r1,q1⟩=>thn (hb pins s1 σ H1 _ I1 q1) fun u s2 ⟨y,H2,I2,r2,q2⟩=>
    thn (ho pins s2 σ H2 x y v u _ I2 r1 r2 q2) fun c s3 ⟨z,H3,I3,r3,k,e,q3⟩=>?_) hm
  subst e
  cases r3
  exact wpAny_truthy_bool ⟨H3,I3,q3⟩
noncomputable def tChain (r r':R2) (ta tb tc:TE):TE:=fun σ H Q=>ta σ H fun x H1=>tb σ H1 fun y H2=>r x y H2 fun z H3=>∃ k,z = .bl k ∧
  (if k = true then tc σ H3 fun w' H4=>r' y w' H4 Q else Q (.bl false) H3)
theorem pe_chain {op op':CmpOp} {r r':R2} (ho:OpR X (compareOp op) r) (ho':OpR X (compareOp op') r') (ha:PE X a ta) (hb:PE X b tb) (hc:PE X c tc)
    (hm:autoParam (lastMarks [op,op'] [b,c] = false) L2.aw._auto_1):PE X (.Compare a [op,op'] [b,c] pos) (tChain r r' ta tb tc):=by
  intro pins s σ H Q I h
  refine Compare_chain (thn (ha pins s σ H _ I h) fun v s1 ⟨x,H1,I1,r1,q1⟩=>chain_link (thn (hb pins s1 σ H1 _ I1 q1) fun u s2 ⟨y,H2,I2,r2,q2⟩=>
    thn (ho pins s2 σ H2 x y v u _ I2 r1 r2 q2) fun d s3 ⟨z,H3,I3,r3,k,e,q3⟩=>?_)) hm
  subst e
  cases r3
  refine wpAny_truthy_bool ?_
  cases k with
  | false=>exact ite_ff ⟨.bl false,H3,I3,rfl,q3⟩
  | true=>exact ite_tt (chain_last (thn (hc pins s3 σ H3 _ I3 q3) fun w' s4 ⟨z',H4,I4,r4,q4⟩=>ho' pins s4 σ H4 y z' u w' Q I4 r2 r4 q4))
theorem line63:(sizeLine:Nat) < 2 ^ 63:=by rw [sizeLine_eq]; decide
theorem vals1 {x:V} {us:List Value} (r:Vals [x] us):∃ u,us = [u] ∧ RelV x u:=by
  cases r with
  | cons r1 r2=>cases r2; exact ⟨_,rfl,r1⟩
theorem vals2 {x y:V} {us:List Value} (r:Vals [x,y] us):∃ u w',us = [u,w'] ∧ RelV x u ∧ RelV y w':=by
  cases r with
  | cons r1 r2=>
    cases r2 with
    | cons r3 r4=>cases r4; exact ⟨_,_,rfl,r1,r3⟩
theorem call_min2 (hc:X.calm = true):CallR X (.builtin "min") (fun xs H Q=>∃ i j,xs = [.int i,.int j] ∧ Q (.int (if j < i then j else i)) H):=by
  intro pins s σ H xs us Q I r h
  revert h
  refine fun zqq=>L2.o_EEA zqq fun i j zq2 q=>?_
  clear zqq
  subst zq2
  obtain ⟨u,w',rfl,⟨t,rfl⟩,⟨t',rfl⟩⟩:=vals2 r
  refine min_two_ints (I.ok.hd hc) fun h' tk k=>⟨_,H,I.kept k,?_,q⟩
  by_cases hj:j < i
  · rw [if_pos hj,if_pos hj]; exact ⟨_,rfl⟩
  · rw [if_neg hj,if_neg hj]; exact ⟨_,rfl⟩
theorem call_int1:CallR X (.type "int") (fun xs H Q=>(∃ i,xs = [.int i] ∧ Q (.int i) H) ∨ ∃ k,xs = [.bl k] ∧ Q (.int (if k then 1 else 0)) H):=by
  intro pins s σ H xs us Q I r h
  rcases h with ⟨i,rfl,q⟩ | ⟨k,rfl,q⟩
  · refine L2.o_EAE (vals1 r) fun u zq1 t zq3=>?_
    subst zq1
    subst zq3
    exact call_int_int ⟨.int i,H,I,⟨_,rfl⟩,q⟩
  · refine L2.o_EA (vals1 r) fun u zq1 r1=>?_
    subst zq1
    cases r1
    exact call_int_bool ⟨.int (if k then 1 else 0),H,I.tok _,⟨_,rfl⟩,q⟩
end
end L2
namespace L2
open PySem PySem.Spec PyProof.Rows
structure ObjM (h:Heap) (x dx C:Addr) (mA:Str → Option Value):Prop where
  obj:h.get? x = some (PySem.W.instObj C dx)
  ns:h.Ns1 dx mA
  ne:dx ≠ x
theorem lookIn_ns {h:Heap} {dx:Addr} {mA:Str → Option Value} (n:h.Ns1 dx mA):∃ od,h.get? dx = some od ∧ ∀ name,PySem.W.lookIn name od = some (mA name):=by
  refine L2.o_EEEAAAA (n) fun o es ep ho hd hk _ hm=>?_
  refine ⟨o,ho,fun name=>?_⟩
  have e:=hm name
  unfold nsFind findBy at e
  rw [← Array.find?_toList] at e
  unfold PySem.W.lookIn
  rw [hd]
  dsimp only
  split
  · rename_i y q
    rw [q] at e
    exact congrArg some e
  · rename_i q
    rw [q] at e
    have a:es.toList.any (·.refKey) = false:=by
      rw [List.any_eq_false]
      intro y hy
      refine L2.o_EE (hk y (Array.mem_toList_iff.mp hy)) fun z t hkey=>?_
      simp [DictEntry.refKey,hkey]
    have a':¬ es.toList.any (·.refKey) = true:=by rw [a]; exact Bool.false_ne_true
    rw [if_neg a']
    exact congrArg some e
theorem ObjM.look {h:Heap} {x dx C:Addr} {mA:Str → Option Value} (I:ObjM h x dx C mA):∃ od,PySem.W.InstAt h x (PySem.W.instObj C dx) C (some od) ∧ ∀ name,PySem.W.lookIn name od = some (mA name):=
  let ⟨od,ho,hl⟩:=lookIn_ns I.ns
  ⟨od,⟨I.obj,rfl,rfl,ho⟩,hl⟩
section
variable {prog:Program} {w:World} {A:Around} {E:Value → Shared → Prop} {s:Shared} {K:PySem.W.Frag} {x dx C f:Addr} {mA:Str → Option Value} {name:Str} {v:Value}
theorem get_map {expr:Bool} {Q:Value → Shared → Prop} (X:K.In s.heap) (I:ObjM s.heap x dx C mA) (hg:PySem.W.plainGet K C name = true) (hh:PySem.W.hasDictIn K C = true)
    (ha:PySem.W.findIn K (.ref C) name = some none) (hv:mA name = some v) (hv':PySem.W.handedIn v = true) (h:Q v { s with toks:=s.toks + 1 }) :
    wpAny (model prog w) A (getAttr (.ref x) name expr) Q E s:=by
  refine L2.o_EA (I.look) fun od J hl=>?_
  exact PySem.W.get_value X J (PySem.W.plainGet_of hg).1 (PySem.W.findObj_own hh ha rfl (by rw [hl,hv])) hv' h
theorem set_map {ns:List Str} {Q:Unit → Shared → Prop} (X:K.In s.heap) (I:ObjM s.heap x dx C mA)
    (hs:PySem.W.findIn K (.ref C) "__setattr__" = some (some (.builtin "object.__setattr__"))) (hp:PySem.W.plainOver K C = true) (ht:PySem.W.takerIn K C name = some none) (hh:PySem.W.hasDictIn K C = true)
    (hw:PySem.Within mA ns) (hsz:ns.length ≤ sizeLine)
    (h:∀ h',ObjM h' x dx C (fun y=>if y = name then some v else mA y) → Heap.SameBut dx s.heap h' → Q () { s with heap:=h',toks:=s.toks + 2 }) :
    wpAny (model prog w) A (setAttr (.ref x) name v) Q E s:=by
  refine L2.o_EA (I.look) fun od J hl=>?_
  refine PySem.W.set_plain X J hs (PySem.W.osa_open (s:={ s with toks:=s.toks + 1 }) (r:=none) X J hp ht fun b=>?_)
  refine L2.o_EA (PySem.W.any_some hh) fun cd hc hd'=>?_
  have hx:s.heap.get? x = some ⟨.ref C,some dx,.plain,#[]⟩:=I.obj
  refine wpAny_bind (wpAny_pure (wpAny_bind (wpAny_bind (wpAny_loadPart hx (wpAny_bind (PySem.W.Looks.here (s:={ s with toks:=s.toks + 1 }) (PySem.W.looks_clsIn X hc) ?_))))))
  rw [hd']
  refine wpAny_pure (a:=some dx) (wpAny_bind (wpAny_pure (wpAny_bind ?_)))
  refine wpAny_nsSet1 (s:={ s with toks:=s.toks + 1 }) I.ns fun h' hn2 hs2=>?_
  refine L2.o_EEEAA (hn2.count (PySem.Within.cons name v hw)) fun oD esD epD hoD hdD hcD=>?_
  refine wpAny_bind (wpAny_lookBehind hoD (by rw [hdD]; exact pastItsLine_dict (Nat.le_trans hcD (by rw [List.length_cons]; (clear hcD; omega)))) ?_)
  exact wpAny_pure (h _ ⟨(hs2.2 _ (Ne.symm I.ne)).trans I.obj,hn2,I.ne⟩ hs2)
theorem make_map {R:Result → Shared → Prop} {vs:List Value} {kw:List (Str × Value)} (X:K.In s.heap) (hm:PySem.W.makesIn K C = true)
    (hi:PySem.W.findIn K (.ref C) "__init__" = some (some (.ref f))) (hf:PySem.W.typeIn K (.ref f) = some (.type "function"))
    (h:codeAny (model prog w) (A.under (.builtin "type.__call__" ⟨.ref C :: vs,kw⟩)) (.call (.ref f) ⟨.ref (s.heap.objs.size + 1) :: vs,kw⟩) (PySem.W.InitBack (s.heap.objs.size + 1) R)
      { s with heap:=(s.heap.push PySem.W.emptyDict).push (PySem.W.instObj C s.heap.objs.size) }) :
    codeAny (model prog w) A (.call (.ref C) ⟨vs,kw⟩) R s:=by
  obtain ⟨hh,g,d,t,os⟩:=s
  exact PySem.W.make_core (PySem.W.makes_of X hm) (PySem.W.looks_findIn X hi) (fun self=>PySem.W.bind_fn X self hf) (.inl rfl) h
end
noncomputable def putF (f:Str) (v:V):List (Str × V) → List (Str × V)
  | []=>[(f,v)]
  | (g,x) :: r=>if g = f then (g,v) :: r else (g,x) :: putF f v r
theorem lookup_putF (f g:Str) (v:V):∀ fs:List (Str × V),(putF f v fs).lookup g = if g = f then some v else fs.lookup g
  | []=>by
    show List.lookup g [(f,v)] = _
    by_cases h:g = f
    · have hb:(g == f) = true:=beq_iff_eq.mpr h
      simp only [List.lookup,hb,if_pos h]
    · have hb:(g == f) = false:=beq_eq_false_iff_ne.mpr h
      simp only [List.lookup,hb,if_neg h]
  | (k,x) :: r=>by
    have ih:=lookup_putF f g v r
    rw [show putF f v ((k,x) :: r) = (if k = f then (k,v) :: r else (k,x) :: putF f v r) from rfl]
    by_cases hk:k = f
    · rw [if_pos hk]
      by_cases h:g = k
      · have hb:(g == k) = true:=beq_iff_eq.mpr h
        simp only [List.lookup,hb,if_pos (h.trans hk)]
      · have hb:(g == k) = false:=beq_eq_false_iff_ne.mpr h
        simp only [List.lookup,hb,if_neg (fun e:g = f=>h (e.trans hk.symm))]
    · rw [if_neg hk]
      by_cases h:g = k
      · have hb:(g == k) = true:=beq_iff_eq.mpr h
        simp only [List.lookup,hb,if_neg (fun e:g = f=>hk (h.symm.trans e))]
      · have hb:(g == k) = false:=beq_eq_false_iff_ne.mpr h
        simp only [List.lookup,hb]
        exact ih
theorem keys_putF (f:Str) (v:V):∀ fs:List (Str × V),f ∈ (putF f v fs).map (·.1) ∧ ∀ g,g ∈ fs.map (·.1) → g ∈ (putF f v fs).map (·.1)
  | []=>⟨by simp [putF],fun g h=>by simp at h⟩
  | (k,x) :: r=>by
    refine L2.o_A (keys_putF f v r) fun i1 i2=>?_
    rw [show putF f v ((k,x) :: r) = (if k = f then (k,v) :: r else (k,x) :: putF f v r) from rfl]
    by_cases hk:k = f
    · rw [if_pos hk]
      subst hk
      exact ⟨by simp,fun g h=>by simpa using h⟩
    · rw [if_neg hk]
      refine ⟨?_,fun g h=>?_⟩
      · rw [List.map_cons]
        exact List.mem_cons_of_mem _ i1
      · rw [List.map_cons] at h ⊢
        rcases List.mem_cons.mp h with e | e
        · exact List.mem_cons.mpr (.inl e)
        · exact List.mem_cons_of_mem _ (i2 g e)
theorem length_putF (f:Str) (v:V):∀ fs:List (Str × V),(putF f v fs).length ≤ fs.length + 1
  | []=>by simp [putF]
  | (k,x) :: r=>by
    have ih:=length_putF f v r
    rw [show putF f v ((k,x) :: r) = (if k = f then (k,v) :: r else (k,x) :: putF f v r) from rfl]
    by_cases hk:k = f
    · rw [if_pos hk,List.length_cons,List.length_cons]; (clear ih; omega)
    · rw [if_neg hk,List.length_cons,List.length_cons]; omega
theorem RelO.some_of {v:V} {o:Option Value} (r:RelO (some v) o):∃ u,o = some u ∧ RelV v u:=by
  cases o with
  | none=>exact (show False from r).elim
  | some u=>exact ⟨u,rfl,r⟩
theorem handed_of {v:V} {u:Value} (r:RelV v u):PySem.W.handedIn u = true:=by
  cases v with
  | non=>cases (show u = Value.none from r); rfl
  | bl b=>cases (show u = Value.bool b from r); rfl
  | int i=>obtain ⟨t,e⟩:=(show ∃ t,u = Value.int i t from r); cases e; rfl
  | str x=>obtain ⟨t,e⟩:=(show ∃ t,u = Value.str x t from r); cases e; rfl
  | byt b=>obtain ⟨t,e⟩:=(show ∃ t,u = Value.bytes b t from r); cases e; rfl
  | flt b=>obtain ⟨t,e⟩:=(show ∃ t,u = Value.float b t from r); cases e; rfl
  | ref a=>cases (show u = Value.ref a from r); rfl
  | ty n=>cases (show u = Value.type n from r); rfl
section
variable {P:Program} {w:World} {H H':Hp} {h h':Heap} {a C dx:Addr} {fs fs':List (Str × V)}
theorem ins_get (hok:HOk P w H h) (e:H a = some (.ins C dx fs)):∃ mA,ObjM h a dx C mA ∧ (∀ f,RelO (fs.lookup f) (mA f)) ∧ PySem.Within mA (fs.map (·.1)) ∧ fs.length ≤ 1000 ∧ H dx = some (.own a):=by
  refine L2.o_AAAAEAA ((show ObjOk P w H h a (.ins C dx fs) from hok a _ e)) fun d z ne ob mA n r q=>?_
  exact ⟨mA,⟨ob,n,ne⟩,r,q,z,d⟩
end
structure Cls (K:PySem.W.Frag) (C:Addr):Prop where
  pg:PySem.W.plainGet K C Str.empty = true
  hd:PySem.W.hasDictIn K C = true
  po:PySem.W.plainOver K C = true
  sa:PySem.W.findIn K (.ref C) "__setattr__" = some (some (.builtin "object.__setattr__"))
theorem Cls.get {K:PySem.W.Frag} {C:Addr} (c:Cls K C) (f:Str):PySem.W.plainGet K C f = true:=c.pg
noncomputable def NoAttr (K:PySem.W.Frag) (C:Addr) (f:Str):Prop:=PySem.W.findIn K (.ref C) f = some none
theorem NoAttr.taker {K:PySem.W.Frag} {C:Addr} {f:Str} (n:NoAttr K C f):PySem.W.takerIn K C f = some none:=by
  unfold PySem.W.takerIn
  rw [show PySem.W.findIn K (.ref C) f = some none from n]
  rfl
structure Con (K:PySem.W.Frag) (C:Addr) (f:Str) (v:V) (u:Value):Prop where
  at_:PySem.W.findIn K (.ref C) f = some (some u)
  rel:RelV v u
  get:PySem.W.specialIn K u "__get__" = some none
  cp:PySem.W.copiedNames.contains f = false
structure Meth (K:PySem.W.Frag) (C:Addr) (m:Str) (f:Addr):Prop where
  at_:PySem.W.findIn K (.ref C) m = some (some (.ref f))
  fn:PySem.W.isFn K (.ref f) = true
  kp:PySem.W.keepIn K (.ref f) = true
section
variable {X:Cx} {pins:List (Addr × Obj)} {σ:St} {H:Hp} {s:Shared} {a C dx:Addr} {fs:List (Str × V)} {f:Str} {v:V} {A:Around} {E:Value → Shared → Prop}
theorem getattr_ok {b:Bool} {Q:Value → Shared → Prop} (I:Inv X pins σ H s) (e:H a = some (.ins C dx fs)) (c:Cls X.K C) (n:NoAttr X.K C f) (l:fs.lookup f = some v)
    (h:∀ u s',Inv X pins σ H s' → RelV v u → Q u s'):wpAny (model X.prog X.w) A (getAttr (.ref a) f b) Q E s:=by
  refine L2.o_EAAAA (ins_get I.hok e) fun mA O r _ _ _=>?_
  obtain ⟨u,hu,ru⟩:=RelO.some_of (v:=v) (o:=mA f) (by rw [← l]; exact r f)
  exact get_map I.kIn O (c.get f) c.hd n hu (handed_of ru) (h u _ (I.tok _) ru)
theorem setattr_ok {y:V} {u:Value} {Q:Unit → Shared → Prop} (I:Inv X pins σ H s) (e:H a = some (.ins C dx fs)) (c:Cls X.K C) (n:NoAttr X.K C f) (hl:fs.length < 1000) (ry:RelV y u)
    (h:∀ s',Inv X pins σ (upd H a (.ins C dx (putF f y fs))) s' → Q () s'):wpAny (model X.prog X.w) A (setAttr (.ref a) f u) Q E s:=by
  refine L2.o_EAAAA (ins_get I.hok e) fun mA O r wi _ ho=>?_
  have hz:(fs.map (·.1)).length ≤ sizeLine:=by rw [List.length_map,sizeLine_eq]; (clear hl; omega)
  refine set_map I.kIn O c.sa c.po n.taker c.hd wi hz fun h' O' sb=>h _ ?_
  have hd:∃ o,h'.get? dx = some o:=let ⟨o,_,_,e',_⟩:=O'.ns; ⟨o,e'⟩
  refine I.write (x:=a) (e:=dx) (by rw [e]; exact True.intro) (.inr ho) (fun b q hb z=>(sb.2 b hb).trans z) hd ?_
  refine ⟨by rw [upd_ne O.ne]; exact ho,?_,O.ne,O'.obj,_,O'.ns,fun g=>?_,fun g hg=>?_⟩
  · have:=length_putF f y fs; (clear hz; omega)
  · show RelO ((putF f y fs).lookup g) (if g = f then some u else mA g)
    rw [lookup_putF]
    by_cases q:g = f
    · rw [if_pos q,if_pos q]; exact ry
    · rw [if_neg q,if_neg q]; exact r g
  · by_cases q:g = f
    · rw [q]; exact (keys_putF f y fs).1
    · refine (keys_putF f y fs).2 g (wi g fun z=>hg ?_)
      show (if g = f then some u else mA g) = none
      rw [if_neg q]; exact z
theorem Inv.made (I:Inv X pins σ H s):Inv X pins σ (upd (upd H s.heap.objs.size (.own (s.heap.objs.size + 1))) (s.heap.objs.size + 1) (.ins C s.heap.objs.size []))
    { s with heap:=(s.heap.push PySem.W.emptyDict).push (PySem.W.instObj C s.heap.objs.size) }:=by
  have e1:(s.heap.push PySem.W.emptyDict).get? s.heap.objs.size = some PySem.W.emptyDict:=Heap.get?_push_size s.heap rfl
  have e2:((s.heap.push PySem.W.emptyDict).push (PySem.W.instObj C s.heap.objs.size)).get? (s.heap.objs.size + 1) = some (PySem.W.instObj C s.heap.objs.size):=by
    have:=Heap.get?_push_size (s.heap.push PySem.W.emptyDict) (o:=PySem.W.instObj C s.heap.objs.size) rfl
    rwa [Heap.size_push] at this
  have e3:(s.heap.push PySem.W.emptyDict).Ns s.heap.objs.size (fun _=>none):=⟨PySem.W.emptyDict,#[],_,e1,rfl,(fun e he=>absurd he (by simp)),fun _=>rfl⟩
  have I1:=I.laid (a:=s.heap.objs.size) (o:=.own (s.heap.objs.size + 1)) (h':=s.heap.push PySem.W.emptyDict) (t':=s.toks) (fun b u q=>Heap.get?_push_of_some _ q) (Nat.le_refl _) ⟨_,e1⟩
  refine I1.laid (a:=s.heap.objs.size + 1) (o:=.ins C s.heap.objs.size []) (t':=s.toks) (fun b u q=>Heap.get?_push_of_some _ q) (Nat.le_of_eq (Heap.size_push _ _)) ?_
  have ne:s.heap.objs.size ≠ s.heap.objs.size + 1:=Nat.ne_of_lt (Nat.lt_succ_self _)
  refine ⟨by rw [upd_ne ne,upd_same],Nat.zero_le _,ne,e2,fun _=>none,(Heap.Ns1.of_empty e3).at fun o q=>Heap.get?_push_of_some _ q,fun _=>True.intro,fun y hy=>absurd rfl hy⟩
theorem attr_of {prog:Program} {w:World} {env:Env} {e:Expr} {f:Str} {pos:Pos} {s:Shared} {Q:Value → Shared → Prop} (hb:attributeBase e f env (eval e env) = eval e env)
    (h:wpAny (model prog w) A (eval e env) (fun o s₁=>wpAny (model prog w) A (getAttr o f true) Q E s₁) E s):wpAny (model prog w) A (eval (.Attribute e f pos) env) Q E s:=
  Attribute_any_ h (by rw [arm_eval_Attribute,hb])
end
noncomputable def tFld (K:PySem.W.Frag) (ta:TE) (f:Str):TE:=fun σ H Q=>ta σ H fun x H1=>∃ a C dx fs v,x = .ref a ∧ H1 a = some (.ins C dx fs) ∧ Cls K C ∧ NoAttr K C f ∧ fs.lookup f = some v ∧ Q v H1
noncomputable def sFld (K:PySem.W.Frag) (ta tv:TE) (f:Str):TS:=fun D σ H=>tv σ H fun y H1=>ta σ H1 fun x H2=>∃ a C dx fs,x = .ref a ∧ H2 a = some (.ins C dx fs) ∧ Cls K C ∧ NoAttr K C f ∧ fs.length < 1000 ∧
  D.nx σ (upd H2 a (.ins C dx (putF f y fs)))
section
variable {X:Cx} {o e value:Expr} {f:Str} {pos pos' tpos:Pos} {ta tv:TE}
theorem pe_fld (he:PE X e ta) (hb:attributeBase e f X.env (eval e X.env) = eval e X.env):PE X (.Attribute e f pos) (tFld X.K ta f):=by
  intro pins s σ H Q I h
  refine attr_of hb (thn (he pins s σ H _ I h) fun u s1 zpat=>?_)
  obtain ⟨x,H1,I1,rx,a,C,dx,fs,v,ex,ea,c,n,l,q⟩:=zpat
  subst ex
  obtain rfl:u = Value.ref a:=rx
  exact getattr_ok I1 ea c n l fun u' s2 I2 ru=>⟨v,H1,I2,ru,q⟩
theorem ps_fld (ha:PE X o ta) (hv:PE X value tv) (hs:swapsWith value (some (.Attribute o f pos')) pos.line X.env = pure false):PS X (.Assign [.Attribute o f pos'] value pos) (sFld X.K ta tv f):=by
  intro pins s σ H D I h
  refine plainObj_wpAny_Assign_Attribute (thn (hv pins s σ H _ I h) fun u s1 ⟨y,H1,I1,ry,q⟩=>thn (ha pins s1 σ H1 _ I1 q) fun ov s2 ⟨x,H2,I2,rx,a,C,dx,fs,ex,ea,c,n,l,q2⟩=>?_) hs
  subst ex
  obtain rfl:ov = Value.ref a:=rx
  exact setattr_ok I2 ea c n l ry fun s3 I3=>⟨σ,_,I3,q2⟩
end
section
variable {X:Cx} {pins:List (Addr × Obj)} {σ:St} {H:Hp} {s:Shared} {A:Around} {E:Value → Shared → Prop} {Q:Value → Shared → Prop} {c:Value} {b:Bool}
end
end L2
namespace L2
open PySem PySem.Spec PyProof.Rows
structure Room (k:Nat) (A:Around):Prop where
  hd:A.handled = none
  dp:A.depth + 3 * k + 5 < recursionLimit
  un:A.units + 16 * k + 200 < cLine
theorem Room.mono {j k:Nat} {A:Around} (r:Room k A) (h:j ≤ k):Room j A:=⟨r.hd,by have:=r.dp; omega,by have:=r.un; omega⟩
theorem Room.deeper {k:Nat} {A:Around} (r:Room (k + 1) A) (env:Env):Room k (A.deeper env):=
  ⟨r.hd,by have:=r.dp; show A.depth + 1 + 3 * k + 5 < _; omega,by have:=r.un; show A.units + 3 + 16 * k + 200 < _; omega⟩
theorem make_depth {A:Around} {C:Addr} {us:List Value} {kw:List (Str × Value)}:(A.under (.builtin "type.__call__" ⟨.ref C :: us,kw⟩)).depth = A.depth + 1:=by
  first | rfl | simp [Around.under,Code.weight,Code.isCreation,Code.isGuard,Code.isCaller,Code.frames,Code.isFrame,guardIds]
theorem make_units {A:Around} {C:Addr} {us:List Value} {kw:List (Str × Value)}:(A.under (.builtin "type.__call__" ⟨.ref C :: us,kw⟩)).units = A.units + 1:=by
  first | rfl | simp [Around.under,Code.cUnits,Code.frames,Code.isFrame]
theorem Room.make {k:Nat} {A:Around} (r:Room (k + 1) A) (C:Addr) (us:List Value) (kw:List (Str × Value)):Room k (A.under (.builtin "type.__call__" ⟨.ref C :: us,kw⟩)):=
  ⟨r.hd,by have:=r.dp; rw [make_depth]; omega,by have:=r.un; rw [make_units]; omega⟩
theorem Room.depth {k:Nat} {A:Around} (r:Room k A):A.depth < recursionLimit:=by have:=r.dp; omega
theorem Room.units {k:Nat} {A:Around} (r:Room k A):A.units + 64 < cLine:=by have:=r.un; omega
noncomputable def tNil:TA:=fun _ H Q=>Q [] H
noncomputable def tCons (ta:TE) (tr:TA):TA:=fun σ H Q=>ta σ H fun x H1=>tr σ H1 fun xs H2=>Q (x :: xs) H2
section
variable {X:Cx} {e:Expr} {es:List Expr} {te:TE} {t:TA} {pos:Pos}
theorem pa_nil:PA X [] tNil:=fun _ _ _ _ H Q I h=>Calls.spliced_nil ⟨[],H,I,.nil,h⟩
theorem pa_cons (ha:PE X e te) (hr:PA X es t) (hs:autoParam (starEach (e :: es) X.env = (false,eval e X.env) :: starEach es X.env) L2.ar._auto_1):PA X (e :: es) (tCons te t):=by
  intro pos pins s σ H Q I h
  rw [hs]
  show wpAny _ _ (spliced ((false,eval e X.env) :: backTo pos (starEach es X.env))) _ _ s
  refine Calls.spliced_cons (thn (ha pins s σ H _ I h) fun u s1 zpat=>?_)
  obtain ⟨x,H1,I1,r1,q1⟩:=zpat
  exact thn (hr pos pins s1 σ H1 _ I1 q1) fun us s2 ⟨xs,H2,I2,r2,q2⟩=>⟨x :: xs,H2,I2,.cons r1 r2,q2⟩
noncomputable def tLst (t:TA):TE:=fun σ H Q=>t σ H fun xs H1=>xs.length ≤ sizeLine ∧ ∀ p,H1 p = none → Q (.ref p) (upd H1 p (.lst xs))
theorem pe_lst (h:PA X es t):PE X (.List es pos) (tLst t):=by
  intro pins s σ H Q I hq
  refine wpAny_List_spliced (thn (h pos pins s σ H _ I hq) fun us s1 ⟨xs,H1,I1,r,z,q⟩=>⟨by rw [← r.length]; exact z,?_⟩)
  have hf:H1 s1.heap.objs.size = none:=I1.hok.fresh (Nat.le_refl _)
  refine ⟨.ref s1.heap.objs.size,upd H1 s1.heap.objs.size (.lst xs),I1.laid (t':=s1.toks) (fun b u e=>Heap.get?_push_of_some _ e) (Nat.le_refl _) ?_,rfl,q _ hf⟩
  exact L2.i_AEEA (z) (us) (0) (r) (Heap.get?_push_size _ rfl)
end
noncomputable abbrev Sp:=List V → Hp → VK → XK → Prop
noncomputable abbrev CXT:=List Env → Hp → Shared → XK → Value → Shared → Prop
structure Env0 (P:Program) (w:World) (K:PySem.W.Frag) (mg:Str → Option Value) (base:Heap) (A:Around) (outer:List Env) (s:Shared) (H:Hp):Prop where
  frames:A.frames = some outer
  mod:Mod K mg base
  bs:∀ b o,base.get? b = some o → s.heap.get? b = some o ∧ H b = none
  bsz:base.objs.size ≤ s.heap.objs.size
  funs:s.heap.FunFrames base outer
  frf:∀ b ∈ frs outer,H b = none
  hok:HOk P w H s.heap
  bare:AllBare s.gens
  tabs:TabsOk P K mg base H
noncomputable def CE (outer:List Env) (P:Program) (w:World) (H:Hp) (s:Shared) (Q:VK) (u:Value) (s':Shared):Prop:=
  ∃ v H',s'.os = s.os ∧ AllBare s'.gens ∧ Un (frs outer) [] H H' s.heap s'.heap ∧ HOk P w H' s'.heap ∧ RelV v u ∧ Q v H'
noncomputable def CR (CX:CXT) (outer:List Env) (P:Program) (w:World) (H:Hp) (s:Shared) (Q:VK) (E:XK) (r:Result) (s':Shared):Prop:=
  match r with
  | .ok (.ret u)=>CE outer P w H s Q u s'
  | .ok _=>False
  | .error e=>CX outer H s E e s'
structure FnOk (P:Program) (w:World) (K:PySem.W.Frag) (mg:Str → Option Value) (base:Heap) (CX:CXT) (k:Nat) (f:Addr) (fd:FuncData) (ps:List Str) (sp:Sp):Prop where
  len:∀ vs H Q E,sp vs H Q E → vs.length = ps.length
  run:∀ (A:Around) (outer:List Env) (s:Shared) (H:Hp) (args:Args) (us:List Value) (vs:List V) (Q:VK) (E:XK),Room k A → Env0 P w K mg base A outer s H → BindsTo s fd args (ps.zip us) → Vals vs us → sp vs H Q E →
    codeAny (model P w) A (.call (.ref f) args) (CR CX outer P w H s Q E) s
theorem Env0.make {P:Program} {w:World} {K:PySem.W.Frag} {mg:Str → Option Value} {base:Heap} {A:Around} {outer:List Env} {s:Shared} {H:Hp} (e:Env0 P w K mg base A outer s H) (C:Addr) (us:List Value) (kw:List (Str × Value)) :
    Env0 P w K mg base (A.under (.builtin "type.__call__" ⟨.ref C :: us,kw⟩)) outer s H:=⟨by first | exact e.frames | (simpa [Around.under,Code.envs,Code.isFrame,pushEnvs] using e.frames),e.mod,e.bs,e.bsz,e.funs,e.frf,e.hok,e.bare,e.tabs⟩
section
variable {X:Cx} {pins:List (Addr × Obj)} {σ:St} {H:Hp} {s s':Shared}
theorem Inv.env0 (I:Inv X pins σ H s):Env0 X.prog X.w X.K X.mg X.base X.A X.stack s H:=
  ⟨I.ok.frames,I.ok.mod,I.bs,Nat.le_trans I.ok.bsz I.sz,I.stack,I.stkFree,I.hok,I.bare,fun x c p h1 h2=>let z:=I.ok.tabs x c p h1 h2; ⟨I.base.tabs p z.1,z.2⟩⟩
theorem Inv.after {Q:VK} {u:Value} (I:Inv X pins σ H s) (h:CE X.stack X.prog X.w H s Q u s'):EP X pins σ Q u s':=by
  refine L2.o_EEAAAAA (h) fun v H' os bare un hok r q=>?_
  obtain ⟨hh,g,d,t,os'⟩:=s'
  obtain rfl:os' = s.os:=os
  exact ⟨v,H',I.call (h':=hh) (g':=g) (d':=d) (t':=t) (ch:=[]) un hok bare (fun b z=>absurd z (by simp)),r,q⟩
end
noncomputable def tCall (sp:Sp) (dvs:List V) (E:XK) (t:TA):TE:=fun σ H Q=>t σ H fun vs H1=>sp (vs ++ dvs) H1 Q E
noncomputable def tMake (C:Addr) (sp:Sp) (dvs:List V) (E:XK) (t:TA):TE:=fun σ H Q=>t σ H fun vs H1=>∀ x dx,H1 x = none → H1 dx = none → dx ≠ x →
  sp (.ref x :: (vs ++ dvs)) (upd (upd H1 dx (.own x)) x (.ins C dx [])) (fun v H2=>v = .non ∧ Q (.ref x) H2) E
noncomputable def Binds (K:PySem.W.Frag) (fd:FuncData) (ps:List Str) (ds:List Value):Prop:=
  ∀ (s:Shared) (us:List Value),K.In s.heap → (us ++ ds).length = ps.length → BindsTo s fd ⟨us,[]⟩ (ps.zip (us ++ ds))
theorem Binds.all {K:PySem.W.Frag} {fd:FuncData} {ps:List Str} (h:∀ us:List Value,us.length = ps.length → bindArgs fd ⟨us,[]⟩ = pure (ps.zip us)):Binds K fd ps []:=fun s us _ hl=>by
  rw [List.append_nil] at hl ⊢
  exact .of_eq (h us hl)
noncomputable def Passes (CX:CXT) (X:Cx) (E:XK):Prop:=∀ (pins:List (Addr × Obj)) (σ:St) (H:Hp) (s:Shared) (e:Value) (s':Shared),Inv X pins σ H s → CX X.stack H s E e s' → X.xe e s'
section
variable {X:Cx} {CX:CXT} {k:Nat} {f C:Addr} {fd:FuncData} {ps:List Str} {sp:Sp} {dvs:List V} {ds:List Value} {E:XK} {x m:Str} {p pos apos:Pos} {e o:Expr} {es:List Expr} {ta:TE} {t:TA}
theorem run_fn {pins:List (Addr × Obj)} {σ:St} {H:Hp} {s:Shared} {Q:VK} {us:List Value} {vs:List V} (F:FnOk X.prog X.w X.K X.mg X.base CX k f fd ps sp) (hr:Room k X.A) (hb:Binds X.K fd ps ds) (hd:Vals dvs ds) (hx:Passes CX X E)
    (I:Inv X pins σ H s) (r:Vals vs us) (h:sp (vs ++ dvs) H Q E):wpAny (model X.prog X.w) X.A (call (.ref f) us) (EP X pins σ Q) X.xe s:=by
  have r2:Vals (vs ++ dvs) (us ++ ds):=r.append hd
  have hl:(us ++ ds).length = ps.length:=by rw [← r2.length]; exact F.len _ _ _ _ h
  refine wpAny_call (codeAny_mono (F.run X.A X.stack s H ⟨us,[]⟩ (us ++ ds) (vs ++ dvs) Q E hr I.env0 (hb s us I.kIn hl) r2 h) fun r s' hq=>?_)
  cases r with
  | error e=>exact hx pins σ H s e s' I hq
  | ok fl=>
    cases fl with
    | ret u=>exact I.after hq
    | next=>exact False.elim hq
    | brk=>exact False.elim hq
    | cont=>exact False.elim hq
theorem pe_call (F:FnOk X.prog X.w X.K X.mg X.base CX k f fd ps sp) (hr:Room k X.A) (hg:Gl X x) (hm:X.mg x = some (.ref f)) (hk:PySem.W.keepIn X.K (.ref f) = true) (hb:Binds X.K fd ps ds) (hd:Vals dvs ds) (hx:Passes CX X E)
    (ha:PA X (e :: es) t) (hdb:autoParam ((x == ("__debug__":Str)) = false) L2.ad._auto_1) (he:autoParam (starEach (e :: es) X.env = (false,eval e X.env) :: starEach es X.env) L2.ar._auto_1) (hpl:autoParam ((backTo pos (starEach es X.env)).any (·.1) = false) L2.ar._auto_1) :
    PE X (.Call (.Name x p) (e :: es) [] pos) (tCall sp dvs E t):=by
  intro pins s σ H Q I h
  refine wpAny_Call_Name_kw (ld_glob I hg hm ?_ hdb)
  refine PySem.W.callWith_K (h₀:=X.base) I.ok.mod.kin hk (thn (ha pos pins s σ H _ I h) fun us s1 ⟨vs,H1,I1,r,q⟩=>⟨I1.kIn,?_⟩) he hpl
  exact run_fn F hr hb hd hx I1 r q
structure Mk (K:PySem.W.Frag) (C f:Addr):Prop where
  makes:PySem.W.makesIn K C = true
  init:PySem.W.findIn K (.ref C) "__init__" = some (some (.ref f))
  fn:PySem.W.isFn K (.ref f) = true
  kp:PySem.W.keepIn K (.ref C) = true
theorem run_make {pins:List (Addr × Obj)} {σ:St} {H:Hp} {s:Shared} {Q:VK} {us:List Value} {vs:List V} (M:Mk X.K C f) (F:FnOk X.prog X.w X.K X.mg X.base CX k f fd ps sp) (hr:Room (k + 1) X.A) (hb:Binds X.K fd ps ds) (hd:Vals dvs ds)
    (hx:Passes CX X E) (I:Inv X pins σ H s) (r:Vals vs us)
    (h:∀ x dx,H x = none → H dx = none → dx ≠ x → sp (.ref x :: (vs ++ dvs)) (upd (upd H dx (.own x)) x (.ins C dx [])) (fun v H2=>v = .non ∧ Q (.ref x) H2) E) :
    wpAny (model X.prog X.w) X.A (call (.ref C) us) (EP X pins σ Q) X.xe s:=by
  have hq:=h (s.heap.objs.size + 1) s.heap.objs.size (I.hok.fresh (Nat.le_succ _)) (I.hok.fresh (Nat.le_refl _)) (Nat.ne_of_lt (Nat.lt_succ_self _))
  have I2:=Inv.made (C:=C) I
  have r2:Vals (V.ref (s.heap.objs.size + 1) :: (vs ++ dvs)) (Value.ref (s.heap.objs.size + 1) :: (us ++ ds)):=.cons rfl (r.append hd)
  have hl:(Value.ref (s.heap.objs.size + 1) :: us ++ ds).length = ps.length:=by
    have e:=r2.length
    rw [F.len _ _ _ _ hq] at e
    exact e.symm
  refine wpAny_call (make_map (f:=f) I.kIn M.makes M.init (beq_iff_eq.mp M.fn) (codeAny_mono (F.run _ X.stack _ _ ⟨Value.ref (s.heap.objs.size + 1) :: us,[]⟩ (Value.ref (s.heap.objs.size + 1) :: (us ++ ds)) _ _ E (hr.make C us [])
    (I2.env0.make C us []) (hb _ (Value.ref (s.heap.objs.size + 1) :: us) I2.kIn hl) r2 hq) fun r s' hq'=>?_))
  cases r with
  | error e=>exact hx pins σ _ _ e s' I2 hq'
  | ok fl=>
    cases fl with
    | ret u=>
      obtain ⟨v,H',I3,rv,ev,q3⟩:=I2.after hq'
      subst ev
      exact ⟨rv,⟨V.ref (s.heap.objs.size + 1),H',I3,rfl,q3⟩⟩
    | next=>exact False.elim hq'
    | brk=>exact False.elim hq'
    | cont=>exact False.elim hq'
theorem pe_make (M:Mk X.K C f) (F:FnOk X.prog X.w X.K X.mg X.base CX k f fd ps sp) (hr:Room (k + 1) X.A) (hg:Gl X x) (hm:X.mg x = some (.ref C)) (hb:Binds X.K fd ps ds) (hd:Vals dvs ds) (hx:Passes CX X E)
    (ha:PA X (e :: es) t) (hdb:autoParam ((x == ("__debug__":Str)) = false) L2.ad._auto_1) (he:autoParam (starEach (e :: es) X.env = (false,eval e X.env) :: starEach es X.env) L2.ar._auto_1) (hpl:autoParam ((backTo pos (starEach es X.env)).any (·.1) = false) L2.ar._auto_1) :
    PE X (.Call (.Name x p) (e :: es) [] pos) (tMake C sp dvs E t):=by
  intro pins s σ H Q I h
  refine wpAny_Call_Name_kw (ld_glob I hg hm ?_ hdb)
  refine PySem.W.callWith_K (h₀:=X.base) I.ok.mod.kin M.kp (thn (ha pos pins s σ H _ I h) fun us s1 ⟨vs,H1,I1,r,q⟩=>⟨I1.kIn,?_⟩) he hpl
  exact run_make M F hr hb hd hx I1 r q
end
section
variable {X:Cx} {CX:CXT} {k:Nat} {f C:Addr} {fd:FuncData} {ps ks:List Str} {sp:Sp} {E:XK} {x m:Str} {p pos apos kpos:Pos} {e o:Expr} {es:List Expr} {kws:List Keyword} {te ta:TE} {t tk:TA} {nm:Option Str}
structure KBinds (K:PySem.W.Frag) (fd:FuncData) (ps ks:List Str) (g:List Value → List Value → List Value) (gV:List V → List V → List V):Prop where
  to:∀ (s:Shared) (us ws:List Value),K.In s.heap → (g us ws).length = ps.length → BindsTo s fd ⟨us,ks.zip ws⟩ (ps.zip (g us ws))
  rel:∀ {vs:List V} {us:List Value} {zs:List V} {ws:List Value},Vals vs us → Vals zs ws → Vals (gV vs zs) (g us ws)
variable {g:List Value → List Value → List Value} {gV:List V → List V → List V}
end
structure FnScope (N P:List Str) (sc:Scope):Prop where
  kind:sc.kind = .function
  co:sc.isCoroutine = false
  gen:sc.isGenerator = false
  nd:N.Nodup
  pre:N.take P.length = P
  par:∀ x ∈ P,sc.names.lookup x = some .local ∨ sc.names.lookup x = some .cell
  nofree:∀ y ∈ sc.names,y.2 ≠ .free
theorem bindL_out {kindOf:Str → Option NameKind} {x:Str}:∀ {binds:List (Str × Value)} {m:Str → Option Value},(∀ v,(x,v) ∉ binds) → bindL kindOf binds m x = m x
  | [],_,_=>rfl
  | (n,v) :: r,m,h=>by
    unfold bindL
    rw [bindL_out fun w hw=>h w (List.mem_cons_of_mem _ hw)]
    split
    · have:x ≠ n:=by rintro rfl; exact h v List.mem_cons_self
      simp [this]
    · rfl
theorem bindC_out {kindOf:Str → Option NameKind} {x:Str}:∀ {binds:List (Str × Value)} {m:Str → Option Value},(∀ v,(x,v) ∉ binds) → bindC kindOf binds m x = m x
  | [],_,_=>rfl
  | (n,v) :: r,m,h=>by
    unfold bindC
    rw [bindC_out fun w hw=>h w (List.mem_cons_of_mem _ hw)]
    split
    · rfl
    · have:x ≠ n:=by rintro rfl; exact h v List.mem_cons_self
      simp [this]
theorem bindL_get {kindOf:Str → Option NameKind} {x:Str} {v:Value}:∀ {P:List Str} {vs:List Value} {i:Nat} {m:Str → Option Value},P.Nodup → P[i]? = some x → vs[i]? = some v → kindOf x = some .local →
    bindL kindOf (P.zip vs) m x = some v
  | [],_,_,_,_,h,_,_=>by simp at h
  | _ :: _,[],_,_,_,_,h,_=>by simp at h
  | p :: P,w :: vs,0,m,nd,h1,h2,hk=>by
    simp at h1 h2; subst h1; subst h2
    show bindL kindOf ((p,w) :: P.zip vs) m p = _
    unfold bindL
    rw [bindL_out fun v hv=>(List.nodup_cons.mp nd).1 (List.of_mem_zip hv).1,if_pos hk]
    simp
  | p :: P,w :: vs,i + 1,m,nd,h1,h2,hk=>by
    show bindL kindOf ((p,w) :: P.zip vs) m x = _
    unfold bindL
    exact bindL_get (i:=i) (List.nodup_cons.mp nd).2 (by simpa using h1) (by simpa using h2) hk
theorem bindC_get {kindOf:Str → Option NameKind} {x:Str} {v:Value}:∀ {P:List Str} {vs:List Value} {i:Nat} {m:Str → Option Value},P.Nodup → P[i]? = some x → vs[i]? = some v → kindOf x ≠ some .local →
    bindC kindOf (P.zip vs) m x = some v
  | [],_,_,_,_,h,_,_=>by simp at h
  | _ :: _,[],_,_,_,_,h,_=>by simp at h
  | p :: P,w :: vs,0,m,nd,h1,h2,hk=>by
    simp at h1 h2; subst h1; subst h2
    show bindC kindOf ((p,w) :: P.zip vs) m p = _
    unfold bindC
    rw [bindC_out fun v hv=>(List.nodup_cons.mp nd).1 (List.of_mem_zip hv).1,if_neg hk]
    simp
  | p :: P,w :: vs,i + 1,m,nd,h1,h2,hk=>by
    show bindC kindOf ((p,w) :: P.zip vs) m x = _
    unfold bindC
    exact bindC_get (i:=i) (List.nodup_cons.mp nd).2 (by simpa using h1) (by simpa using h2) hk
noncomputable def start (N:List Str) (vs:List V):St:=vs.map some ++ List.replicate (N.length - vs.length) none
noncomputable def cxOf (CX:CXT) (P:Program) (w:World) (K:PySem.W.Frag) (mg:Str → Option Value) (base:Heap) (N:List Str) (qual:Str) (scope:Scope) (f:Addr) (cd:Value) (A:Around) (outer:List Env) (s:Shared) (H:Hp) (E:XK):Cx where
  prog:=P
  w:=w
  K:=K
  mg:=mg
  base:=base
  A:=A.deeper (envOfC qual scope s.heap.objs.size f cd)
  N:=N
  s₀:=s
  H₀:=H
  env:=envOfC qual scope s.heap.objs.size f cd
  outer:=outer
  stack:=envOfC qual scope s.heap.objs.size f cd :: outer
  ex:=[]
  calm:=true
  fn:=fun _=>true
  pn:=[]
  xe:=fun e s'=>wpAny (model P w) (A.deeper (envOfC qual scope s.heap.objs.size f cd)) (leaving (envOfC qual scope s.heap.objs.size f cd) e) (fun _ s''=>CX outer H s E e s'') (fun e' s''=>CX outer H s E e' s'') s'
theorem cell_has {sc:Scope} {n:Nat} {x:Str} (h:sc.names.lookup x = some .cell):∃ c,(cellsFrom n sc.names []).lookup x = some c:=by
  have q:=PySem.W.cellsFrom_some sc.names n [] (.inl h)
  exact Option.isSome_iff_exists.mp q
theorem inv_start {CX:CXT} {P:Program} {w:World} {K:PySem.W.Frag} {mg:Str → Option Value} {base:Heap} {N ps:List Str} {qual:Str} {scope:Scope} {f:Addr} {cd:Value} {A:Around} {outer:List Env} {s s1:Shared} {H:Hp} {E:XK} {us:List Value} {vs:List V}
    (S:FnScope N ps scope) (hd:A.handled = none) (e0:Env0 P w K mg base A outer s H) (hl:vs.length = ps.length) (r:Vals vs us)
    (x:InCallC s s.heap.objs.size (bindL (envOfC qual scope s.heap.objs.size f cd).kindOf (ps.zip us) fun _=>none) (cellsFrom (s.heap.objs.size + 1) scope.names []) (bindC (envOfC qual scope s.heap.objs.size f cd).kindOf (ps.zip us) fun _=>none) s1) :
    Inv (cxOf CX P w K mg base N qual scope f cd A outer s H E) [] (start N vs) H s1:=by
  have hpl:ps.length ≤ N.length:=by have:=congrArg List.length S.pre; rw [List.length_take] at this; (clear hl; omega)
  refine L2.o_EEA (x.done) fun h1 tk zq2 hk=>?_
  subst zq2
  have noA:∀ b:Addr,b ∉ (cxOf CX P w K mg base N qual scope f cd A outer s H E).ex:=fun b z=>absurd (show b ∈ ([]:List Addr) from z) (by simp)
  refine ⟨⟨e0.mod,S.kind,rfl,rfl,Nat.le_refl _,fun y z c h1 h2=>?_,fun y hy=>?_,fun y c _ h=>?_,fun _=>hd,Around.frames_deeper e0.frames,.inr ⟨rfl,rfl⟩,fun b z=>absurd z (noA b),e0.bs,e0.bsz,fun b _ _=>noA b,fun b z=>absurd z (noA b),e0.funs,e0.frf,e0.tabs⟩,
    rfl,e0.bare,Un.kept hk,⟨_,x.toInCall.ns,fun i y v h1 h2 h3=>?_⟩,fun y c h=>⟨_,x.cell y c h⟩,e0.hok.fresh (Nat.le_refl _),fun y c h=>?_,fun p hp=>absurd (show p ∈ ([]:List (Addr × Obj)) from hp) (by simp),e0.hok.kept hk,?_⟩
  · exact name_of_addr x.apart (PySem.mem_of_lookup h1) (PySem.mem_of_lookup h2)
  · have hy:scope.names.lookup y = some .cell ∨ scope.names.lookup y = some .free:=hy
    rcases hy with hy | hy
    · exact cell_has hy
    · exact absurd rfl (S.nofree _ (PySem.mem_of_lookup hy))
  · exact Nat.le_of_lt (x.above y c (PySem.mem_of_lookup h))
  · have hi:i < vs.length:=by
      unfold start at h2
      by_cases hi:i < vs.length
      · exact hi
      · rw [List.getElem?_append_right (by simpa using hi)] at h2
        rw [List.getElem?_replicate] at h2
        split at h2 <;> cases h2
    have ha:vs[i]? = some v:=by
      unfold start at h2
      rw [List.getElem?_append_left (by simpa using hi),List.getElem?_map] at h2
      cases e:vs[i]? with
      | none=>rw [e] at h2; cases h2
      | some a=>rw [e] at h2; cases h2; rfl
    refine L2.o_EA (r.get ha) fun u hu rv=>?_
    have hp:ps[i]? = some y:=by
      rw [← S.pre,List.getElem?_take_of_lt (by (clear hu ha h2 h1 hpl; omega))]; exact h1
    have ndP:ps.Nodup:=by rw [← S.pre]; exact S.nd.sublist (List.take_sublist _ _)
    refine ⟨u,rv,?_⟩
    rcases S.par y (List.mem_of_getElem? hp) with k | k
    · exact .inl ⟨k,bindL_get ndP hp hu k⟩
    · refine L2.o_E (cell_has (n:=s.heap.objs.size + 1) k) fun c e=>?_
      refine .inr ⟨.inl k,c,e,?_⟩
      have q:=x.cell y c e
      rw [bindC_get ndP hp hu (by show scope.names.lookup y ≠ _; rw [k]; decide)] at q
      exact q
  · exact .inl (e0.hok.fresh (Nat.le_of_lt (x.above y c (PySem.mem_of_lookup h))))
  · unfold start
    show _ = N.length
    rw [List.length_append,List.length_map,List.length_replicate]
    omega
theorem fn_of {CX:CXT} {P:Program} {w:World} {K:PySem.W.Frag} {mg:Str → Option Value} {base:Heap} {k:Nat} {f:Addr} {name qual:Str} {params:Arguments} {body:List Stmt} {scope:Scope} {dV kV doc pm cdv ct oc:Value} {an od:Option Addr}
    {osl:Array (Option Value)} {N ps:List Str} {sp:Sp} (lk:K.lookup f = some ⟨oc,od,.func (PySem.W.fnOf name qual params body scope dV kV doc pm an cdv ct),osl⟩) (hcd:PySem.W.codeIn K cdv qual = true) (S:FnScope N ps scope)
    (len:∀ vs H Q E,sp vs H Q E → vs.length = ps.length)
    (hbody:∀ (A:Around) (outer:List Env) (s:Shared) (H:Hp) (vs:List V) (Q:VK) (E:XK),Room k (A.deeper (envOfC qual scope s.heap.objs.size f cdv)) → sp vs H Q E →
      ∃ t,PSs (cxOf CX P w K mg base N qual scope f cdv A outer s H E) body t ∧ t { nx:=fun _ H'=>Q .non H',rt:=Q } (start N vs) H) :
    FnOk P w K mg base CX (k + 1) f (PySem.W.fnOf name qual params body scope dV kV doc pm an cdv ct) ps sp:=by
  refine ⟨len,fun A outer s H args us vs Q E hr e0 hb r hsp=>?_⟩
  have hl:=len _ _ _ _ hsp
  have KX:K.In s.heap:=e0.mod.kin.keeps fun b o e=>(e0.bs b o e).1
  have lim:s.heap.NoLimit:=e0.mod.nolimit.keeps fun b o e=>(e0.bs b o e).1
  have hkind:∀ y ∈ ps.zip us,scope.names.lookup y.1 = some .local ∨ (scope.names.lookup y.1 = some .cell ∧ ((cellsFrom (s.heap.objs.size + 1) scope.names []).lookup y.1).isSome = true):=fun ⟨n,v⟩ hy=>by
    rcases S.par n (List.of_mem_zip hy).1 with q | q
    · exact .inl q
    · exact .inr ⟨q,PySem.W.cellsFrom_some _ _ _ (.inl q)⟩
  refine codeAny_call_function hr.depth (KX _ _ lk) rfl S.co S.gen rfl (PySem.W.codeRec_of KX hcd) (hb _ _ _ _ ?_)
  refine wpAny_newFunctionEnv_cells S.kind hkind fun env he s1 x=>?_
  subst he
  refine ⟨lim.keeps x.toInCall.keep,codeAny_func ?_⟩
  refine L2.o_EA (hbody A outer s H vs Q E (hr.deeper _) hsp) fun t ht hq=>?_
  have I:Inv (cxOf CX P w K mg base N qual scope f cdv A outer s H E) [] (start N vs) H s1:=inv_start S hr.hd e0 hl r x
  refine wpAny_mono (ht [] s1 (start N vs) H _ I hq) (fun fl s' hs=>?_) fun e s' hs=>hs
  have fin:∀ {σ':St} {H':Hp} {v:V} {u:Value},Inv (cxOf CX P w K mg base N qual scope f cdv A outer s H E) [] σ' H' s' → RelV v u → Q v H' → CE outer P w H s Q u s':=
    fun {σ' H' v u} J rv q=>⟨v,H',J.os,J.bare,J.base,J.hok,rv,q⟩
  cases fl with
  | ret u=>
    refine L2.o_EEEAA (hs) fun v σ' H' J rv q=>?_
    exact fin J rv q
  | next=>
    refine L2.o_EEA (hs) fun σ' H' J q=>?_
    exact fin (v:=V.non) (u:=Value.none) J rfl q
  | brk=>
    refine L2.o_EEA (hs) fun _ _ _ q=>?_
    exact False.elim q
  | cont=>
    refine L2.o_EEA (hs) fun _ _ _ q=>?_
    exact False.elim q
end L2
namespace L2
open PySem PySem.Spec PyProof.Rows
section
variable {X:Cx} {x:Str} {p pos:Pos} {e:Expr} {es:List Expr} {t:TA} {id T:String} {r:List V → Hp → VK → Prop}
noncomputable def tCB (r:List V → Hp → VK → Prop) (t:TA):TE:=fun σ H Q=>t σ H fun vs H1=>r vs H1 Q
theorem pe_callB (hc:CallR X (.builtin id) r) (hg:Gl X x) (hm:X.mg x = none) (hv:bootBuiltins x = some (.builtin id)) (ha:PA X (e :: es) t) (hn:autoParam (x ≠ "__name__") L2.ad._auto_1) (hdb:autoParam ((x == ("__debug__":Str)) = false) L2.ad._auto_1)
    (he:autoParam (starEach (e :: es) X.env = (false,eval e X.env) :: starEach es X.env) L2.ar._auto_1) (hpl:autoParam ((backTo pos (starEach es X.env)).any (·.1) = false) L2.ar._auto_1):PE X (.Call (.Name x p) (e :: es) [] pos) (tCB r t):=by
  intro pins s σ H Q I h
  refine wpAny_Call_Name_kw (ld_blt I hg hm hv ?_ hn hdb)
  exact PyProof.Rows.callWith_builtin1 (thn (ha pos pins s σ H _ I h) fun us s1 ⟨vs,H1,I1,r1,q1⟩=>hc pins s1 σ H1 vs us Q I1 r1 q1) he hpl
theorem pe_callTy (hc:CallR X (.type T) r) (hg:Gl X x) (hm:X.mg x = none) (hv:bootBuiltins x = some (.type T)) (ha:PA X (e :: es) t) (hn:autoParam (x ≠ "__name__") L2.ad._auto_1) (hdb:autoParam ((x == ("__debug__":Str)) = false) L2.ad._auto_1)
    (he:autoParam (starEach (e :: es) X.env = (false,eval e X.env) :: starEach es X.env) L2.ar._auto_1) (hpl:autoParam ((backTo pos (starEach es X.env)).any (·.1) = false) L2.ar._auto_1):PE X (.Call (.Name x p) (e :: es) [] pos) (tCB r t):=by
  intro pins s σ H Q I h
  refine wpAny_Call_Name_kw (ld_blt I hg hm hv ?_ hn hdb)
  exact PyProof.Rows.callWith_type1 (thn (ha pos pins s σ H _ I h) fun us s1 ⟨vs,H1,I1,r1,q1⟩=>hc pins s1 σ H1 vs us Q I1 r1 q1) he hpl
end
end L2
namespace HT
open PySem PyProof.Rows
section
open PySem.SeqAt
open PySem.AutoSeq1 (wpAny_loadPart')
open PySem.MeetsSeq PySem.MeetsSeq2 PySem.MeetsSeq3
end
section
variable {prog:Program} {w:World} {A:Around} {E:Value → Shared → Prop} {s:Shared}
end
end HT
namespace L2
open PySem PySem.Spec PyProof.Rows
noncomputable abbrev TO:=St → Hp → (Option Int → Hp → Prop) → Prop
noncomputable def PO (X:Cx) (e:Option Expr) (t:TO):Prop:=
  ∀ (pins:List (Addr × Obj)) (s:Shared) (σ:St) (H:Hp) (Q:Option Int → Hp → Prop),Inv X pins σ H s → t σ H Q →
    wpAny (model X.prog X.w) X.A (evalPart e X.env) (fun u s'=>∃ o H',Inv X pins σ H' s' ∧ IsPart u o ∧ Q o H') X.xe s
theorem intsAre_of {ns:List Int}:∀ {us:List Value},Vals (ns.map V.int) us → IntsAre us ns:=by
  induction ns with
  | nil=>intro us r; rw [List.map_nil] at r; cases r; exact .nil
  | cons n ns ih=>
    intro us r
    rw [List.map_cons] at r
    cases r with
    | cons r1 r2=>
      refine L2.o_E (r1) fun t e=>?_
      subst e
      exact .cons n t (ih r2)
section
variable {X:Cx} {e:Expr} {te:TE} {lo hi:Option Expr} {tl th:TO} {pos p2:Pos}
end
end L2
namespace L2
open PySem PySem.Spec PyProof.Rows
noncomputable def ixN (n:Nat) (i:Int):Option Nat:=if 0 ≤ i then (if i < n then some i.toNat else none) else if -(n:Int) ≤ i then some (i + n).toNat else none
noncomputable def atI {α:Type} (xs:List α) (i:Int):Option α:=(ixN xs.length i).bind fun j=>xs[j]?
theorem ixN_seq {n:Nat} {i:Int} {j:Nat} (h:ixN n i = some j):seqIndex? i n = some j ∧ j < n ∧ -(n:Int) ≤ i ∧ i < n:=by
  unfold ixN at h
  by_cases h0:0 ≤ i
  · rw [if_pos h0] at h
    by_cases h1:i < n
    · rw [if_pos h1] at h
      have e:i.toNat = j:=Option.some.inj h
      exact ⟨by rw [seqIndex_of h0 h1,e],by omega,by (clear e h1; omega),h1⟩
    · rw [if_neg h1] at h; cases h
  · rw [if_neg h0] at h
    by_cases h1:-(n:Int) ≤ i
    · rw [if_pos h1] at h
      have e:(i + n).toNat = j:=Option.some.inj h
      exact ⟨by rw [seqIndex_neg (by (clear e h1; omega)) h1,e],by omega,h1,by (clear e h1; omega)⟩
    · rw [if_neg h1] at h; cases h
theorem atI_get {α:Type} {xs:List α} {i:Int} {v:α} (h:atI xs i = some v):∃ j,seqIndex? i xs.length = some j ∧ xs[j]? = some v ∧ j < xs.length ∧ -(xs.length:Int) ≤ i ∧ i < xs.length:=by
  unfold atI at h
  cases e:ixN xs.length i with
  | none=>rw [e] at h; cases h
  | some j=>
    rw [e] at h
    refine L2.o_AAA (ixN_seq e) fun h1 h2 h3 h4=>?_
    exact ⟨j,h1,h,h2,h3,h4⟩
theorem atI_nat {α:Type} {xs:List α} {j:Nat} {v:α} (h:xs[j]? = some v):atI xs (j:Int) = some v:=by
  have hj:j < xs.length:=(List.getElem?_eq_some_iff.mp h).1
  have e:ixN xs.length (j:Int) = some j:=by
    unfold ixN
    rw [if_pos (by (clear hj h; omega)),if_pos (by (clear h; omega))]; simp
  unfold atI; rw [e]; exact h
noncomputable def PlainIx (b:Expr):Prop:=∀ o i,subscripted b false o i = operate [o,i] (getItem o i)
noncomputable def IxR (X:Cx) (r:R2):Prop:=
  ∀ (value slice:Expr) (pins:List (Addr × Obj)) (s:Shared) (σ:St) (H:Hp) (x y:V) (v u:Value) (Q:VK),Inv X pins σ H s → RelV x v → RelV y u → r x y H Q →
    subscripted slice false v u = operate [v,u] (getItem v u) → wpAny (model X.prog X.w) X.A (subscriptTail value slice v u) (EP X pins σ Q) X.xe s
noncomputable def MtR (X:Cx) (id:String) (r:V → List V → Hp → VK → Prop):Prop:=
  ∀ (pins:List (Addr × Obj)) (s:Shared) (σ:St) (H:Hp) (x:V) (xs:List V) (v:Value) (us:List Value) (Q:VK),Inv X pins σ H s → RelV x v → Vals xs us → r x xs H Q →
    wpAny (model X.prog X.w) X.A (call (.builtin id) (v :: us)) (EP X pins σ Q) X.xe s
section
variable {X:Cx} {a b:Expr} {ta tb:TE} {pos:Pos}
theorem IxR.or {r r':R2} (h:IxR X r) (h':IxR X r'):IxR X (fun x y H Q=>r x y H Q ∨ r' x y H Q):=by
  intro value slice pins s σ H x y v u Q I rx ry q hs
  rcases q with q | q
  · exact h value slice pins s σ H x y v u Q I rx ry q hs
  · exact h' value slice pins s σ H x y v u Q I rx ry q hs
theorem pe_ix {r:R2} (hr:IxR X r) (ha:PE X a ta) (hb:PE X b tb) (hs:PlainIx b):PE X (.Subscript a b pos) (tOp r ta tb):=by
  intro pins s σ H Q I h
  exact Subscript_ (binT ha hb I h fun v u s2 x y H2 I2 rx ry q=>hr a b pins s2 σ H2 x y v u Q I2 rx ry q (hs _ _))
noncomputable def rIxL (K:PySem.W.Frag):R2:=fun x y H Q=>∃ p xs i v,x = .ref p ∧ y = .int i ∧ SqL K H p xs ∧ atI xs i = some v ∧ Q v H
noncomputable def rIxT (K:PySem.W.Frag):R2:=fun x y H Q=>∃ p xs i v,x = .ref p ∧ y = .int i ∧ SqT K H p xs ∧ atI xs i = some v ∧ Q v H
theorem ix_list:IxR X (rIxL X.K):=by
  intro value slice pins s σ H x y v u Q I rx ry h hs
  revert h
  refine fun zqq=>L2.o_EEEEAAAA zqq fun p xs i z zq4 zq5 hq he q=>?_
  clear zqq
  subst zq4
  subst zq5
  cases rx
  revert ry
  refine fun zqq=>L2.o_E zqq fun t zq1=>?_
  clear zqq
  subst zq1
  refine L2.o_EAA (I.list hq) fun its r pl hz=>?_
  refine L2.o_EAAAA (atI_get he) fun j h1 h2 h3 h4 h5=>?_
  refine L2.o_EA (r.get h2) fun w ew rw'=>?_
  have hl:=r.length
  have hn:=line63
  have fin:EP X pins σ Q w s:=⟨z,H,I,rw',q⟩
  by_cases h0:0 ≤ i
  · have hj:i.toNat = j:=by
      rw [seqIndex_of h0 h5] at h1
      exact Option.some.inj h1
    exact item_listR pl.isList h0 (by (clear hj h0 hl ew h4 h3 h2; omega)) (by rw [hj]; simpa using ew) fin hs
  · have hj:(i + (its.toArray.size:Int)).toNat = j:=by
      rw [seqIndex_neg (by (clear hn hl ew h5 h4 h3 h2 hz; omega)) h4] at h1
      rw [List.size_toArray,← hl]
      exact Option.some.inj h1
    exact subscriptTail_builtinR (x:=w) pl.isList.typeIs slot_list_getitem.lookup
      (wpAny_getItem_list_neg (Q:=fun r s'=>r = w ∧ EP X pins σ Q r s') pl.isList (by (clear hj hn hl ew h5 h4 h3 h2 hz; omega)) (by rw [List.size_toArray] <;> (clear hj h0 hn ew h5 h3 h2 hz; omega)) (by (clear hj h0 hl ew h5 h3 h2; omega)) (by rw [hj]; simpa using ew) ⟨rfl,fin⟩) hs
theorem ix_tup:IxR X (rIxT X.K):=by
  intro value slice pins s σ H x y v u Q I rx ry h hs
  revert h
  refine fun zqq=>L2.o_EEEEAAAA zqq fun p xs i z zq4 zq5 hq he q=>?_
  clear zqq
  subst zq4
  subst zq5
  cases rx
  revert ry
  refine fun zqq=>L2.o_E zqq fun t zq1=>?_
  clear zqq
  subst zq1
  refine L2.o_EAA (I.tuple hq) fun its r pl hz=>?_
  refine L2.o_EAAAA (atI_get he) fun j h1 h2 h3 h4 h5=>?_
  refine L2.o_EA (r.get h2) fun w ew rw'=>?_
  have hl:=r.length
  have hn:=line63
  have fin:EP X pins σ Q w s:=⟨z,H,I,rw',q⟩
  exact subscriptTail_builtinR (x:=w) pl.typeIs slot_tuple_getitem.lookup
    (getItem_tuple (j:=j) (Q:=fun r s'=>r = w ∧ EP X pins σ Q r s') pl (by (clear hl ew h5 h3 h2; omega)) (by (clear hl ew h4 h3 h2; omega)) (by rw [List.size_toArray,← hl]; exact h1) (by simpa using ew) ⟨rfl,fin⟩) hs
theorem mapSeq_set (its:List Value) (n j:Nat) (u:Value):Obj.mapSeq (·.setIfInBounds j u) { cls:=.type "list",data:=.seq its.toArray n } = { cls:=.type "list",data:=.seq (its.set j u).toArray n }:=by
  simp [Obj.mapSeq]
theorem Inv.lst {pins:List (Addr × Obj)} {σ:St} {H:Hp} {s:Shared} {p:Addr} {xs:List V} (I:Inv X pins σ H s) (h:H p = some (.lst xs)) :
    ∃ (its:List Value) (n:Nat),Vals xs its ∧ s.heap.get? p = some { cls:=.type "list",data:=.seq its.toArray n } ∧ xs.length ≤ sizeLine:=by
  refine L2.o_AEEA (I.hok p _ h) fun z its n r e=>?_
  exact L2.i_EEAA (its) (n) (r) (e) (z)
theorem Inv.lstUpd {pins:List (Addr × Obj)} {σ:St} {H:Hp} {s:Shared} {p:Addr} {xs ys:List V} {its its':List Value} {n n':Nat} {f:Obj → Obj} (I:Inv X pins σ H s) (h:H p = some (.lst xs))
    (ho:s.heap.get? p = some { cls:=.type "list",data:=.seq its.toArray n }) (hf:f { cls:=.type "list",data:=.seq its.toArray n } = { cls:=.type "list",data:=.seq its'.toArray n' }) (r:Vals ys its') (hz:ys.length ≤ sizeLine) (t:Nat) :
    Inv X pins σ (upd H p (.lst ys)) { s with heap:=s.heap.update p f,toks:=t }:=by
  have e:(s.heap.update p f).get? p = some { cls:=.type "list",data:=.seq its'.toArray n' }:=by
    rw [Heap.get?_update_self f ho (by rw [hf] <;> rfl),hf]
  refine I.write (x:=p) (e:=p) (by rw [h]; trivial) (.inl rfl) (fun b u hb q=>(Heap.get?_update_other _ _ (Ne.symm hb)).trans q) ⟨_,e⟩ ?_
  exact L2.i_AEEA (hz) (its') (n') (r) (e)
noncomputable def rSetL:V → V → V → Hp → (Hp → Prop) → Prop:=fun o i v H Q=>∃ p xs k j,o = .ref p ∧ i = .int k ∧ H p = some (.lst xs) ∧ ixN xs.length k = some j ∧ Q (upd H p (.lst (xs.set j v)))
theorem set_list:PSet X rSetL:=by
  intro pins s σ H o i v ov iv u Q I ro ri rv h
  revert h
  refine fun zqq=>L2.o_EEEEAAAA zqq fun p xs k j zq4 zq5 hp hj q=>?_
  clear zqq
  subst zq4
  subst zq5
  cases ro
  revert ri
  refine fun zqq=>L2.o_E zqq fun t zq1=>?_
  clear zqq
  subst zq1
  refine L2.o_EEAA (I.lst hp) fun its n r ho hz=>?_
  refine L2.o_AAA (ixN_seq hj) fun h1 h2 h3 h4=>?_
  have hl:=r.length
  have hn:=line63
  have I':Inv X pins σ (upd H p (.lst (xs.set j v))) { s with heap:=s.heap.update p (Obj.mapSeq (·.setIfInBounds j u)) }:=
    I.lstUpd hp ho (mapSeq_set its n j u) (r.set rv j) (by rw [List.length_set]; exact hz) s.toks
  by_cases h0:0 ≤ k
  · have hk:k.toNat = j:=by
      rw [seqIndex_of h0 h4] at h1
      exact Option.some.inj h1
    exact PySem.W.ki_setAt ho h0 (by (clear hk h0 hl h3 h2; omega)) (by rw [List.size_toArray,← hl]; exact h4) (by rw [hk]; exact ⟨_,I',q⟩)
  · have hk:(k + (its.toArray.size:Int)).toNat = j:=by
      rw [seqIndex_neg (by (clear hn hl h4 h3 h2 hz; omega)) h3] at h1
      rw [List.size_toArray,← hl]
      exact Option.some.inj h1
    exact PySem.W.ki_setBack ho (by (clear hk hn hl h4 h3 h2 hz; omega)) (by rw [List.size_toArray,← hl]; exact h3) (by (clear hk h0 hl h4 h2; omega)) (by rw [hk]; exact ⟨_,I',q⟩)
noncomputable def flatV:V → Bool
  | .non=>true
  | .bl _=>true
  | .int _=>true
  | .str _=>true
  | _=>false
noncomputable def eqV:V → V → Bool
  | .non,.non=>true
  | .bl a,.bl b=>a == b
  | .bl a,.int b=>(if a then 1 else 0) == b
  | .int a,.bl b=>a == (if b then 1 else 0)
  | .int a,.int b=>a == b
  | .str a,.str b=>a == b
  | _,_=>false
theorem eqAt_V {A:Around} {s:Shared} {y x:V} {u v:Value} (ry:RelV y u) (rx:RelV x v) (fy:flatV y = true) (fx:flatV x = true):SeqAt.EqAt A s u v (eqV y x):=by
  cases y with
  | non=>
    cases ry
    cases x with
    | non=>cases rx; exact SeqAt.EqAt.same _
    | bl b=>cases rx; exact SeqAt.EqAt.none_bool b
    | int b=>obtain ⟨t,rfl⟩:=rx; exact SeqAt.EqAt.none_int b t
    | str b=>obtain ⟨t,rfl⟩:=rx; exact SeqAt.EqAt.none_str b t
    | _=>exact absurd (show false = true from fx) Bool.false_ne_true
  | bl a=>
    cases ry
    cases x with
    | non=>cases rx; exact SeqAt.EqAt.bool_none a
    | bl b=>cases rx; exact SeqAt.EqAt.bool_bool a b
    | int b=>obtain ⟨t,rfl⟩:=rx; exact SeqAt.EqAt.bool_int a b t
    | str b=>obtain ⟨t,rfl⟩:=rx; exact SeqAt.EqAt.bool_str a b t
    | _=>exact absurd (show false = true from fx) Bool.false_ne_true
  | int a=>
    revert ry
    refine fun zqq=>L2.o_E zqq fun t' zq1=>?_
    clear zqq
    subst zq1
    cases x with
    | non=>cases rx; exact SeqAt.EqAt.int_none a t'
    | bl b=>cases rx; exact SeqAt.EqAt.int_bool a t' b
    | int b=>obtain ⟨t,rfl⟩:=rx; exact SeqAt.EqAt.int_int a t' b t
    | str b=>obtain ⟨t,rfl⟩:=rx; exact SeqAt.EqAt.int_str a t' b t
    | _=>exact absurd (show false = true from fx) Bool.false_ne_true
  | str a=>
    revert ry
    refine fun zqq=>L2.o_E zqq fun t' zq1=>?_
    clear zqq
    subst zq1
    cases x with
    | non=>cases rx; exact SeqAt.EqAt.str_none a t'
    | bl b=>cases rx; exact SeqAt.EqAt.str_bool a t' b
    | int b=>obtain ⟨t,rfl⟩:=rx; exact SeqAt.EqAt.str_int a t' b t
    | str b=>obtain ⟨t,rfl⟩:=rx; exact SeqAt.EqAt.str_str a t' b t
    | _=>exact absurd (show false = true from fx) Bool.false_ne_true
  | _=>exact absurd (show false = true from fy) Bool.false_ne_true
noncomputable def eqU (x:V) (u:Value):Bool:=match u with
  | .none=>eqV .non x
  | .bool b=>eqV (.bl b) x
  | .int i _=>eqV (.int i) x
  | .str z _=>eqV (.str z) x
  | _=>false
theorem eqU_of {x y:V} {u:Value} (r:RelV y u) (f:flatV y = true):eqU x u = eqV y x:=by
  cases y with
  | non=>cases r; rfl
  | bl b=>cases r; rfl
  | int i=>obtain ⟨t,rfl⟩:=r; rfl
  | str z=>obtain ⟨t,rfl⟩:=r; rfl
  | _=>exact absurd (show false = true from f) Bool.false_ne_true
theorem mem_eqAt {A:Around} {s:Shared} {x:V} {v:Value} (rx:RelV x v) (fx:flatV x = true):∀ {xs:List V} {us:List Value},Vals xs us → xs.all flatV = true → ∀ u ∈ us,SeqAt.EqAt A s u v (eqU x u):=by
  intro xs us h
  induction h with
  | nil=>exact fun _ u hu=>by cases hu
  | cons r t ih=>
    intro f u' hu
    rw [List.all_cons,Bool.and_eq_true] at f
    rcases List.mem_cons.mp hu with rfl | hu
    · rw [eqU_of r f.1]; exact eqAt_V r rx f.1 fx
    · exact ih f.2 u' hu
theorem call_len_seq:CallR X (.builtin "len") (fun xs H Q=>∃ p ys,xs = [.ref p] ∧ (SqL X.K H p ys ∨ SqT X.K H p ys) ∧ Q (.int ys.length) H):=by
  intro pins s σ H xs us Q I r h
  revert h
  refine fun zqq=>L2.o_EEAA zqq fun p ys zq2 hq q=>?_
  clear zqq
  subst zq2
  refine L2.o_EA (vals1 r) fun u zq1 rx=>?_
  subst zq1
  cases rx
  have hn:=line63
  rcases hq with hq | hq
  · refine L2.o_EAA (I.list hq) fun its r' pl hz=>?_
    have hlen:=r'.length
    exact Calls.call_len_list pl.isList (by simp only [List.size_toArray] <;> omega) ⟨.int ys.length,H,I.tok _,⟨s.toks + 1,by rw [List.size_toArray,hlen]⟩,q⟩
  · refine L2.o_EAA (I.tuple hq) fun its r' pl hz=>?_
    have hlen:=r'.length
    exact len_tuple pl (by simp only [List.size_toArray] <;> omega) ⟨.int ys.length,H,I.tok _,⟨s.toks + 1,by rw [List.size_toArray,hlen]⟩,q⟩
theorem call_list_of:CallR X (.type "list") (fun xs H Q=>∃ p ys,xs = [.ref p] ∧ (SqL X.K H p ys ∨ SqT X.K H p ys) ∧ ∀ l,H l = none → Q (.ref l) (upd H l (.lst ys))):=by
  intro pins s σ H xs us Q I r h
  revert h
  refine fun zqq=>L2.o_EEAA zqq fun p ys zq2 hq q=>?_
  clear zqq
  subst zq2
  refine L2.o_EA (vals1 r) fun u zq1 rx=>?_
  subst zq1
  cases rx
  have fin:∀ (its:List Value),Vals ys its → ys.length ≤ sizeLine → ∀ (h':Heap) (c':Nat),(∀ b o',s.heap.get? b = some o' → h'.get? b = some o') →
      h'.get? s.heap.objs.size = some { cls:=.type "list",dict:=none,data:=.seq its.toArray c',slots:=#[] } → EP X pins σ Q (.ref s.heap.objs.size) { s with heap:=h' }:=fun its r' hz h' c' kp e=>
    ⟨.ref s.heap.objs.size,_,I.laid (t':=s.toks) kp (Nat.le_refl _) (show ObjOk X.prog X.w _ h' _ (.lst ys) from ⟨hz,its,c',r',e⟩),rfl,q _ (I.hok.fresh (Nat.le_refl _))⟩
  rcases hq with hq | hq
  · refine L2.o_EAA (I.list hq) fun its r' pl hz=>?_
    have hlen:=r'.length
    refine L2.o_EAAE (pl.isList) fun o ho hc n hd=>?_
    exact call_list_seq p (.inl rfl) ho hc hd (fun h' c' kp e=>fin its r' hz h' c' kp e) (by simp only [List.size_toArray] <;> (clear fin; omega))
  · refine L2.o_EAA (I.tuple hq) fun its r' pl hz=>?_
    have hlen:=r'.length
    refine L2.o_EAAE (pl) fun o ho hc n hd=>?_
    exact call_list_seq p (.inr rfl) ho hc hd (fun h' c' kp e=>fin its r' hz h' c' kp e) (by simp only [List.size_toArray] <;> (clear fin; omega))
theorem call_tuple_of:CallR X (.type "tuple") (fun xs H Q=>∃ p ys,xs = [.ref p] ∧ ((SqL X.K H p ys ∧ ∀ l,H l = none → Q (.ref l) (upd H l (.tup ys))) ∨ (SqT X.K H p ys ∧ Q (.ref p) H))):=by
  intro pins s σ H xs us Q I r h
  revert h
  refine fun zqq=>L2.o_EEA zqq fun p ys zq2 h=>?_
  clear zqq
  subst zq2
  refine L2.o_EA (vals1 r) fun u zq1 rx=>?_
  subst zq1
  cases rx
  rcases h with ⟨hq,q⟩ | ⟨hq,q⟩
  · refine L2.o_EAA (I.list hq) fun its r' pl hz=>?_
    have hlen:=r'.length
    refine call_tuple_list pl.isList (fun h' kp=>?_) (by simp only [List.size_toArray] <;> omega)
    have I1:Inv X pins σ H { s with heap:=h' }:=I.kept (t':=s.toks) kp
    have I2:Inv X pins σ (upd H h'.objs.size (.tup ys)) { s with heap:=h'.push { cls:=.type "tuple",data:=.seq its.toArray } }:=
      I1.laid (t':=s.toks) (fun b o e=>Heap.get?_push_of_some _ e) (Nat.le_refl _) (show ObjOk X.prog X.w _ _ _ (.tup ys) from ⟨hz,its,r',IsTup.new _ _⟩)
    exact ⟨.ref h'.objs.size,_,I2,rfl,q _ (I1.hok.fresh (Nat.le_refl _))⟩
  · refine L2.o_EAA (I.tuple hq) fun its r' pl hz=>?_
    exact call_tuple_same pl ⟨.ref p,H,I,rfl,q⟩
noncomputable def tyV (K:PySem.W.Frag) (T:String) (x:V) (H:Hp):Prop:=match x with
  | .str _=>T = "str"
  | .int _=>T = "int"
  | .ref p=>(T = "list" ∧ ∃ xs,SqL K H p xs) ∨ (T = "tuple" ∧ ∃ o,K.lookup p = some o ∧ o.cls = .type "tuple" ∧ o.dict = none)
  | _=>False
theorem tyV_is {pins:List (Addr × Obj)} {σ:St} {H:Hp} {s:Shared} {T:String} {x:V} {v:Value} (I:Inv X pins σ H s) (r:RelV x v) (ty:tyV X.K T x H) :
    s.TypeIs v T ∧ ∀ a,v = .ref a → ∃ ob,s.heap.get? a = some ob ∧ ob.dict = none:=by
  cases x with
  | str z=>
    revert r
    refine fun zqq=>L2.o_E zqq fun t zq1=>?_
    clear zqq
    subst zq1
    cases (show T = "str" from ty)
    exact ⟨typeIs_str s z t,fun _ e=>nomatch e⟩
  | int i=>
    revert r
    refine fun zqq=>L2.o_E zqq fun t zq1=>?_
    clear zqq
    subst zq1
    cases (show T = "int" from ty)
    exact ⟨typeIs_int s i t,fun _ e=>nomatch e⟩
  | ref p=>
    cases r
    rcases ty with ⟨rfl,xs,hq⟩ | ⟨rfl,o,hk,hc,hd⟩
    · refine L2.o_EAA (I.list hq) fun its _ pl _=>?_
      refine ⟨pl.isList.typeIs,fun a e=>?_⟩
      cases e
      refine L2.o_EEAAA (pl) fun o n e c hd _=>?_
      exact ⟨o,e,hd⟩
    · refine ⟨⟨o,I.kIn p o hk,hc⟩,fun a e=>?_⟩
      cases e
      exact ⟨o,I.kIn _ o hk,hd⟩
  | _=>exact False.elim ty
noncomputable def tBM0 (K:PySem.W.Frag) (T:String) (r:V → List V → Hp → VK → Prop) (to:TE):TE:=fun σ H Q=>to σ H fun x H1=>tyV K T x H1 ∧ r x [] H1 Q
noncomputable def tBM (K:PySem.W.Frag) (T:String) (r:V → List V → Hp → VK → Prop) (to:TE) (t:TA):TE:=fun σ H Q=>to σ H fun x H1=>tyV K T x H1 ∧ t σ H1 fun xs H2=>r x xs H2 Q
variable {o e:Expr} {es:List Expr} {to:TE} {t:TA} {name:Str} {apos cpos:Pos} {T id:String} {r:V → List V → Hp → VK → Prop}
theorem pe_bm0 (pa:PlainAttrs T) (slot:Slot T name id) (hty:typeOf (.builtin id) = pure (.type "method_descriptor")) (hm:MtR X id r) (ho:PE X o to)
    (hbase:autoParam (attributeBase o name X.env (eval o X.env) = eval o X.env) L2.ar._auto_1) (hline:autoParam ((apos.endLine == cpos.line) = true) L2.ar._auto_1):PE X (.Call (.Attribute o name apos) [] [] cpos) (tBM0 X.K T r to):=by
  intro pins s σ H Q I h
  refine wpAny_Call_method0_late hbase hline (thn (ho pins s σ H _ I h) fun v s1 zpat=>?_)
  obtain ⟨x,H1,I1,r1,ty,q1⟩:=zpat
  refine L2.o_A (tyV_is I1 r1 ty) fun h1 h2=>?_
  exact L2.i_EEAAAAA (T) (id) (pa) (slot) (hty) (h1) (h2) (Calls.callWith_builtin rfl (PySem.evalArgs_none (hm pins s1 σ H1 x [] v [] Q I1 r1 .nil q1)))
theorem pe_bm (pa:PlainAttrs T) (slot:Slot T name id) (hty:typeOf (.builtin id) = pure (.type "method_descriptor")) (hm:MtR X id r) (ho:PE X o to) (ha:PA X (e :: es) t)
    (hbase:autoParam (attributeBase o name X.env (eval o X.env) = eval o X.env) L2.ar._auto_1)
    (hfew:autoParam (((backTo cpos (starEach (e :: es) X.env)).all (fun x=>!x.1) && (backToKw cpos (keywordEach [] X.env)).all (fun x=>x.1.isSome)
      && decide ((e :: es).length + ([]:List Keyword).length + (if ([]:List Keyword).isEmpty then 0 else 1) < 30)) = true) L2.ar._auto_1)
    (hline:autoParam ((apos.endLine == cpos.line) = true) L2.ar._auto_1) (hs:autoParam (starEach (e :: es) X.env = (false,eval e X.env) :: starEach es X.env) L2.ar._auto_1) (hplain:autoParam ((backTo cpos (starEach es X.env)).any (·.1) = false) L2.ar._auto_1) :
    PE X (.Call (.Attribute o name apos) (e :: es) [] cpos) (tBM X.K T r to t):=by
  intro pins s σ H Q I h
  refine wpAny_Call_method_late hbase hfew hline rfl (thn (ho pins s σ H _ I h) fun v s1 zpat=>?_)
  obtain ⟨x,H1,I1,r1,ty,q1⟩:=zpat
  refine L2.o_A (tyV_is I1 r1 ty) fun h1 h2=>?_
  refine L2.i_EEAAAAA (T) (id) (pa) (slot) (hty) (h1) (h2) ?_
  have hA:=ha cpos pins s1 σ H1 _ I1 q1
  rw [hs] at hA ⊢
  refine Calls.callWith_builtin (by show (false || (backTo cpos (starEach es X.env)).any (·.1)) = false; rw [hplain] <;> rfl) (Calls.evalArgs_plain ?_)
  exact thn hA fun us s2 ⟨vs,H2,I2,r2,q2⟩=>hm pins s2 σ H2 x vs v us Q I2 r1 r2 q2
/- xs.append(e),list.index on a module's tuple .. are MtR facts of 06m -/
end
end L2
namespace L2
open PySem PySem.Spec PyProof.Rows
noncomputable def MtM (X:Cx) (id:String) (r:V → List V → Hp → VK → Prop):Prop:=
  ∀ (pins:List (Addr × Obj)) (s:Shared) (σ:St) (H:Hp) (x:V) (xs:List V) (v:Value) (us:List Value) (Q:VK),Inv X pins σ H s → RelV x v → Vals xs us → r x xs H Q →
    wpAny (model X.prog X.w) X.A (call (.builtin id) (v :: us)) (EP X pins σ Q) X.xe s
theorem Vals.one {x:V} {us:List Value} (h:Vals [x] us):∃ u,us = [u] ∧ RelV x u:=by
  cases h with
  | cons r t=>cases t; exact ⟨_,rfl,r⟩
theorem Vals.two {x y:V} {us:List Value} (h:Vals [x,y] us):∃ u v,us = [u,v] ∧ RelV x u ∧ RelV y v:=by
  cases h with
  | cons r t=>
    refine L2.o_EA (Vals.one t) fun u zq1 q=>?_
    subst zq1
    exact L2.i_EEAA (_) (_) (rfl) (r) (q)
theorem Vals.zero:∀ {us:List Value},Vals [] us → us = []
  | _,.nil=>rfl
theorem Vals.dropLast {xs:List V} {us:List Value} (h:Vals xs us):Vals xs.dropLast us.dropLast:=by
  induction h with
  | nil=>exact .nil
  | cons r t ih=>
    cases t with
    | nil=>exact .nil
    | cons q t'=>exact .cons r ih
theorem Vals.reverse {xs:List V} {us:List Value} (h:Vals xs us):Vals xs.reverse us.reverse:=by
  induction h with
  | nil=>exact .nil
  | cons r t ih=>rw [List.reverse_cons,List.reverse_cons]; exact Vals.append ih (.cons r .nil)
theorem Vals.rep {xs:List V} {us:List Value} (h:Vals xs us):∀ k:Nat,Vals (List.replicate k xs).flatten (List.replicate k us).flatten
  | 0=>.nil
  | k + 1=>by
    rw [List.replicate_succ,List.replicate_succ,List.flatten_cons,List.flatten_cons]
    exact Vals.append h (Vals.rep h k)
theorem erase_last {α:Type} (l:List α):l.eraseIdx (l.length - 1) = l.dropLast:=by
  induction l with
  | nil=>rfl
  | cons a r ih=>
    cases r with
    | nil=>rfl
    | cons b r=>
      have e:(a :: b :: r).length - 1 = ((b :: r).length - 1) + 1:=rfl
      rw [e,List.eraseIdx_cons_succ,ih]
      all_goals rfl
theorem foldl_rep (its:List Value):∀ (k:Nat) (acc:List Value),
    List.foldl (fun x1 x2=>x1 ++ x2) acc.toArray (List.replicate k its.toArray) = (acc ++ (List.replicate k its).flatten).toArray
  | 0,acc=>by simp
  | k + 1,acc=>by
    have e:acc.toArray ++ its.toArray = (acc ++ its).toArray:=by simp
    have e2:(acc ++ its) ++ (List.replicate k its).flatten = acc ++ (List.replicate (k + 1) its).flatten:=by
      rw [List.replicate_succ,List.flatten_cons,List.append_assoc]
    rw [← e2,← foldl_rep its k (acc ++ its),← e,List.replicate_succ,List.foldl_cons]
section
variable {X:Cx} {pins:List (Addr × Obj)} {σ:St} {H:Hp} {s:Shared} {l b:Addr} {xs ys zs:List V}
theorem Inv.lset {its its':List Value} {n:Nat} {f:Array Value → Array Value} {t':Nat} (I:Inv X pins σ H s) (hH:H l = some (.lst xs))
    (e:s.heap.get? l = some { cls:=.type "list",data:=.seq its.toArray n }) (hf:f its.toArray = its'.toArray) (hv:Vals ys its') (hz:ys.length ≤ sizeLine) :
    Inv X pins σ (upd H l (.lst ys)) { s with heap:=s.heap.update l (Obj.mapSeq f),toks:=t' }:=by
  have q:=PySem.IsL.update e f
  rw [hf] at q
  refine I.write (x:=l) (e:=l) (by rw [hH]; exact trivial) (.inl rfl) (fun b' u hb hu=>(Heap.get?_update_other s.heap (Obj.mapSeq f) (Ne.symm hb)).trans hu) ⟨_,q⟩ ?_
  exact L2.i_AEEA (hz) (its') (_) (hv) (q)
theorem Inv.lnew {its:List Value} {t':Nat} (I:Inv X pins σ H s) (hv:Vals ys its) (hz:ys.length ≤ sizeLine) :
    Inv X pins σ (upd H s.heap.objs.size (.lst ys)) { s with heap:=s.heap.push { cls:=.type "list",data:=.seq its.toArray },toks:=t' }:=
  I.laid (fun _ _ q=>Heap.get?_push_of_some _ q) (Nat.le_refl _) ⟨hz,its,0,hv,Heap.get?_push_size _ rfl⟩
theorem Inv.fresh (I:Inv X pins σ H s):H s.heap.objs.size = none:=I.hok.fresh (Nat.le_refl _)
theorem Inv.lstM (I:Inv X pins σ H s) (hH:H l = some (.lst xs)):xs.length ≤ sizeLine ∧ ∃ (its:List Value) (n:Nat),Vals xs its ∧ xs.length = its.length ∧ s.heap.get? l = some { cls:=.type "list",data:=.seq its.toArray n }:=by
  refine L2.o_AEEA (I.hok l _ hH) fun z its n r e=>?_
  exact L2.i_AEEAA (z) (its) (n) (r) (r.length) (e)
theorem notLongL {n:Nat} (h:n ≤ sizeLine):Builtin.List.listTooLong n = false:=by
  unfold Builtin.List.listTooLong
  exact decide_eq_false (by omega)
end
section
variable {X:Cx}
noncomputable def rAppend:V → List V → Hp → VK → Prop:=fun x vs H Q=>∃ l xs y,x = .ref l ∧ vs = [y] ∧ H l = some (.lst xs) ∧ xs.length < sizeLine ∧ Q .non (upd H l (.lst (xs ++ [y])))
theorem mt_append:MtM X "list.append" rAppend:=by
  intro pins s σ H x vs v us Q I rx rv h
  revert h
  refine fun zqq=>L2.o_EEEAAAA zqq fun l xs y zq3 zq4 hH hz q=>?_
  clear zqq
  subst zq3
  subst zq4
  cases rx
  refine L2.o_EA (rv.one) fun u zq1 ru=>?_
  subst zq1
  refine L2.o_AEEAA (I.lstM hH) fun z its n r hl e=>?_
  refine call_meets F.slot_list_append ⟨_,e,rfl⟩ F.entry_list_append (F.args_list_append_2 _ _) (PySem.list_append l its.toArray n u (by rw [List.size_toArray]; (clear z; omega))) ⟨e,?_⟩
  refine ⟨.non,_,I.lset (its':=its ++ [u]) hH e (by simp) (r.append (.cons ru .nil)) ?_,rfl,q⟩
  rw [List.length_append,List.length_singleton]
  (clear hl z; omega)
noncomputable def rPop:V → List V → Hp → VK → Prop:=fun x vs H Q=>∃ l xs y,x = .ref l ∧ vs = [] ∧ H l = some (.lst xs) ∧ xs[xs.length - 1]? = some y ∧ Q y (upd H l (.lst xs.dropLast))
theorem mt_pop:MtM X "list.pop" rPop:=by
  intro pins s σ H x vs v us Q I rx rv h
  revert h
  refine fun zqq=>L2.o_EEEAAAA zqq fun l xs y zq3 zq4 hH hy q=>?_
  clear zqq
  subst zq3
  subst zq4
  cases rx
  have hus:=rv.zero
  subst hus
  refine L2.o_AEEAA (I.lstM hH) fun z its n r hl e=>?_
  refine L2.o_EA (r.get hy) fun u hu ru=>?_
  have hy':its.toArray[its.toArray.size - 1]? = some u:=by
    show its.toArray[its.length - 1]? = some u
    rw [← Array.getElem?_toList,← hl]
    exact hu
  refine call_meets F.slot_list_pop ⟨_,e,rfl⟩ F.entry_list_pop (F.args_list_pop_1 _) (MeetsSeq.list_pop_last l its.toArray n u hy' (by rw [List.size_toArray]; (clear hy' hu hy; omega))) ⟨e,?_⟩
  refine ⟨y,_,I.lset (its':=its.dropLast) hH e ?_ r.dropLast ?_,ru,q⟩
  · show its.toArray.eraseIdxIfInBounds (its.toArray.size - 1) = its.dropLast.toArray
    rw [List.size_toArray,List.eraseIdxIfInBounds_toArray,erase_last]
  · rw [List.length_dropLast]
    (clear hy' hu hl hy; omega)
noncomputable def rClear:V → List V → Hp → VK → Prop:=fun x vs H Q=>∃ l xs,x = .ref l ∧ vs = [] ∧ H l = some (.lst xs) ∧ Q .non (upd H l (.lst []))
theorem mt_clear:MtM X "list.clear" rClear:=by
  intro pins s σ H x vs v us Q I rx rv h
  revert h
  refine fun zqq=>L2.o_EEAAA zqq fun l xs zq2 zq3 hH q=>?_
  clear zqq
  subst zq2
  subst zq3
  cases rx
  have hus:=rv.zero
  subst hus
  refine L2.o_AEEAA (I.lstM hH) fun z its n r hl e=>?_
  refine call_meets F.slot_list_clear ⟨_,e,rfl⟩ F.entry_list_clear (F.args_list_clear_1 _) (AutoSeq1.list_clear_list_0 l its.toArray n (by rw [List.size_toArray]; omega)) ⟨e,?_⟩
  exact ⟨.non,_,I.lset (its':=[]) (ys:=[]) hH e rfl .nil (Nat.zero_le _),rfl,q⟩
noncomputable def rRep:R2:=fun x y H Q=>∃ l k xs,x = .ref l ∧ y = .int k ∧ H l = some (.lst xs) ∧ -(2 ^ 63) ≤ k ∧ k < 2 ^ 63 ∧ xs.length * k.toNat ≤ sizeLine ∧
  ∀ p,H p = none → Q (.ref p) (upd H p (.lst (List.replicate k.toNat xs).flatten))
theorem len_rep {α:Type} (xs:List α) (k:Nat):(List.replicate k xs).flatten.length = k * xs.length:=by
  induction k with
  | zero=>simp
  | succ k ih=>rw [List.replicate_succ,List.flatten_cons,List.length_append,ih,Nat.succ_mul,Nat.add_comm]
theorem op_rep:OpR X (binaryOp .Mult) rRep:=by
  intro pins s σ H x y v u Q I rx ry h
  revert h
  refine fun zqq=>L2.o_EEEAAAAAA zqq fun l k xs zq3 zq4 hH h1 h2 hz q=>?_
  clear zqq
  subst zq3
  subst zq4
  cases rx
  revert ry
  refine fun zqq=>L2.o_E zqq fun t zq1=>?_
  clear zqq
  subst zq1
  refine L2.o_AEEAA (I.lstM hH) fun z its n r hl e=>?_
  have hlen:its.toArray.size * k.toNat ≤ sizeLine:=by rw [List.size_toArray,← hl]; exact hz
  have hcap:¬ its.toArray.size * k.toNat > (2 ^ 63 - 1) / 8:=by
    have:(sizeLine:Nat) ≤ (2 ^ 63 - 1) / 8:=by decide
    (clear hl z hz h2 h1; omega)
  have hfit:¬ (!Builtin.List.listFitsIndex k) = true:=by
    rw [fitsIndex_both h1 h2]
    exact Bool.false_ne_true
  have hlong:¬ Builtin.List.listTooLong (its.toArray.size * k.toNat) = true:=by
    rw [notLongL hlen]
    exact Bool.false_ne_true
  have hnew:List.foldl (fun x1 x2=>x1 ++ x2) #[] (List.replicate (if its.toArray.isEmpty = true then 0 else k.toNat) its.toArray) = (List.replicate k.toNat its).flatten.toArray:=by
    have f0:∀ m:Nat,List.foldl (fun x1 x2=>x1 ++ x2) #[] (List.replicate m its.toArray) = (List.replicate m its).flatten.toArray:=fun m=>by
      have:=foldl_rep its m []
      rw [List.nil_append] at this
      exact this
    rw [f0]
    cases its with
    | nil=>simp
    | cons a r'=>rw [if_neg (by simp)]
  refine wpAny_binaryOp_repeat_ref (T:="list") (U:="int") (by decide) ⟨_,e,rfl⟩ (fun s'=>typeIs_int s' k t) noFill_list_mul F.fills_int_mul F.slot_int_rmul repeat_list F.slot_int_index.lookup
    (call_meets F.slot_int_rmul (typeIs_int s k t) F.entry_int_rmul (F.args_int_rmul_2 _ _) (int___rmul___int_list k t l its.toArray n)
      ⟨e,rfl,⟨_,e,rfl⟩,call_meets F.slot_list_mul ⟨_,e,rfl⟩ F.entry_list_mul (F.args_list_mul_2 _ _) (AutoListH.list___mul___list_int_3 l its.toArray n k t hfit hcap hlong) ⟨e,?_⟩⟩)
  rw [hnew]
  exact ⟨.ref _,_,I.lnew (t':=s.toks) (r.rep k.toNat) (by rw [len_rep,Nat.mul_comm]; exact hz),rfl,q _ I.fresh⟩
end
section
variable {prog:Program} {w:World} {A:Around} {E:Value → Shared → Prop} {s:Shared}
end
section
variable {X:Cx}
end
end L2
namespace Att
open PySem PySem.W PySem.Calls PyProof.Rows
theorem ints_of_wellAll {P:Params} {h:Heap}:∀ (ns:List Int) (vs:List Value),WellAll P h vs (ns.map WData.int) → IntsAre vs ns:=by
  intro ns
  induction ns with
  | nil=>
    intro vs w
    rw [List.map_nil] at w
    cases w
    exact .nil
  | cons n ns ih=>
    intro vs w
    rw [List.map_cons] at w
    cases w with
    | cons a b=>
      cases a
      exact .cons _ _ (ih _ b)
theorem script_of {l:OpenLaw} {n:Nat} (hn:l.most = some n) {P:Params} {h:Heap} {args:List WData} {vals:List Value}
    (hpre:l.row.toRowW.claim.pre args = true) (hwl:WellAll P h vals args) :
    ∃ a vs ns,vals = [Value.ref a] ∧ args = [WData.list (ns.map WData.int)] ∧ h.get? a = some { cls:=.type "list",data:=.seq vs.toArray } ∧ IntsAre vs ns ∧ ns.length ≤ n:=by
  have hsh:WShape.hasAll [] args [.list .int] = true:=(pre_splitW hpre).1
  have hc:l.pre.holds [] { args:=args } = true:=(pre_splitW hpre).2
  refine L2.o_EEAA (hasAllW_cons hsh) fun d r zq2 h1 h2=>?_
  subst zq2
  obtain rfl:=hasAllW_nil h2
  refine L2.o_EA (hasW_list h1) fun xs zq1 h3=>?_
  subst zq1
  refine L2.o_E (items_int h3) fun ns zq1=>?_
  subst zq1
  have hlen:ns.length ≤ n:=by
    unfold OpenLaw.pre at hc
    have h4:(WTm.not (.lt (.lit (.int (n:Int))) (.len (.arg 0)))).holds [] { args:=[.list (ns.map .int)] } = true:=by
      have h4:=(holds_andW hc).1
      rw [hn] at h4
      exact h4
    have h5:=condW_of h4 (w_not (w_lt w_lit (w_len_list (w_arg rfl))))
    rw [List.length_map] at h5
    refine Nat.le_of_not_lt fun q=>?_
    have q':(n:Int) < ((ns.length:Nat):Int):=by (clear h5; omega)
    first
      | (rw [decide_eq_true q'] at h5; exact absurd h5 (by decide))
      | (simp at h5; omega)
  cases hwl with
  | cons w1 w2=>
    cases w2
    cases w1 with
    | list ho hall=>exact ⟨_,_,ns,rfl,rfl,ho,ints_of_wellAll ns _ hall,hlen⟩
theorem post_true (l:OpenLaw) (args:List WData):l.row.toRowW.claim.post args (.bool true) args = true:=
  postW_of (r:=l.row.toRowW) (X:=(true == true))
    (show WShape.has [] (.bool true) .bool = true by first | rfl | decide | simp [WShape.has,WShape.arms,WShape.armsAll])
    (show (WTm.eq .res (.lit (.bool true))).value [] { args:=args,res:=some (.bool true),after:=args } = some (.bool (true == true)) from w_eq_bool (w_res rfl) w_lit) rfl
theorem attach_call {l:OpenLaw} {n:Nat} {q:Program} {loose:List Str} {XP:(Str → Option Value) → Heap → Prop} {YP:World → Heap → Prop} {d:DefRec}
    (hn:l.most = some n) (hdf:d.params.defaults = [])
    (call:∀ (w:World) (s₀ s₁:Shared) (mg mb:Str → Option Value) (fa:Addr) (o:Obj) (pm cd doc:Value) (a:Addr) (vs:List Value) (ns:List Int),
      Ground q loose [] XP w s₀ mg mb s₁.heap → YP w s₁.heap →
      s₁.heap.get? fa = some o → o.data = .func (docDef d.name d.params d.body d.scope pm cd doc) → s₁.heap.CodeRec cd d.name → mg d.name = some (.ref fa) →
      s₁.heap.get? a = some { cls:=.type "list",data:=.seq vs.toArray } → IntsAre vs ns → ns.length ≤ n → s₁.gens = #[] →
      codeAny (model l.prog w) callerA (.call (.ref fa) ⟨[.ref a],[]⟩) (fun r s'=>r = .ok (.ret (.bool true)) ∧ OldK s₁.heap s'.heap ∧ s'.os = s₁.os ∧ AllBare s'.gens) s₁) :
    WalkO q loose XP YP l.row.toRowW d [] (fun f vs=>PySem.call f vs):=by
  intro w s₀ s₁ mg mb G Y fa o pm cd doc dV kV ho hd hcd hD hmg hg args vals as hpre hlay hrd hwl hlo
  obtain rfl:dV = .none:=Dflts.none hD hdf
  obtain rfl:kV = .none:=Dflts.noKw hD
  refine L2.o_EEEAAAA (script_of hn hpre hwl) fun a vs ns zq3 zq4 hobj hints hlen=>?_
  subst zq3
  subst zq4
  refine enter_call (codeAny_mono (call w s₀ s₁ mg mb fa o pm cd doc a vs ns G Y ho (fd_plain hd) hcd hmg hobj hints hlen hg) fun r s' hq=>?_)
  revert hq
  refine fun zqq=>L2.o_AAA zqq fun zq0 h2 h3 h4=>?_
  clear zqq
  subst zq0
  exact ⟨.inl ⟨.bool true,.bool true,[],rfl,fun _=>rfl,.bool true,post_true l _,fun _=>⟨List.Pairwise.nil,fun _ hm=>(nomatch hm)⟩⟩,h2,h3,h4⟩
section
variable {prog:Program} {w:World} {A:Around} {E:Value → Shared → Prop} {s:Shared} {K:Frag}
end
end Att
namespace L2
open PySem PySem.Spec PyProof.Rows
theorem vals_ints {vs:List Value} {ns:List Int} (h:IntsAre vs ns):Vals (ns.map V.int) vs:=by
  induction h with
  | nil=>exact .nil
  | cons n t h ih=>exact .cons ⟨t,rfl⟩ ih
end L2
namespace L2
open PySem PySem.Spec PyProof.Rows
noncomputable abbrev KOf {K:PySem.W.Frag} {h:Heap} (_:K.In h):PySem.W.Frag:=K
end L2
namespace L2
open PySem PySem.Spec PyProof.Rows
noncomputable def defArgs (s:Stmt):Arguments:=match s with
  | .FunctionDef _ a _ _ _ _ _ _ _ _=>a
  | _=>{ posonlyargs:=[],args:=[],vararg:=none,kwonlyargs:=[],kw_defaults:=[],kwarg:=none,defaults:=[] }
noncomputable def defBody (s:Stmt):List Stmt:=match s with
  | .FunctionDef _ _ b _ _ _ _ _ _ _=>b
  | _=>[]
noncomputable def defScope (s:Stmt):Scope:=match s with
  | .FunctionDef _ _ _ _ _ _ sc _ _ _=>sc
  | _=>{ kind:=.function,names:=[],isGenerator:=false,isCoroutine:=false }
noncomputable abbrev CX0:CXT:=fun _ _ _ _ _ _=>False
noncomputable abbrev E0:XK:=fun _ _ _=>False
theorem pass0 {X:Cx}:Passes CX0 X E0:=fun _ _ _ _ _ _ _ h=>h.elim
structure Fun (K:PySem.W.Frag) (x qual:Str) (st:Stmt) (f:Addr) (fd:FuncData):Prop where
  ex:∃ (oc:Value) (od:Option Addr) (kV doc pm:Value) (an:Option Addr) (cdv ct:Value) (osl:Array (Option Value)),
    fd = PySem.W.fnOf x qual (defArgs st) (defBody st) (defScope st) .none kV doc pm an cdv ct ∧ K.lookup f = some ⟨oc,od,.func fd,osl⟩ ∧ PySem.W.codeIn K cdv qual = true
  kp:PySem.W.keepIn K (.ref f) = true
section
variable {P:Program} {w:World} {K:PySem.W.Frag} {mg:Str → Option Value} {base:Heap}
theorem Fun.binds {x qual:Str} {st:Stmt} {f:Addr} {fd:FuncData} {ps:List Str} (F:Fun K x qual st f fd)
    (h:∀ (kV doc pm:Value) (an:Option Addr) (cdv ct:Value) (us:List Value),us.length = ps.length → bindArgs (PySem.W.fnOf x qual (defArgs st) (defBody st) (defScope st) .none kV doc pm an cdv ct) ⟨us,[]⟩ = pure (ps.zip us)):Binds K fd ps []:=by
  refine L2.o_EEEEEEEEEAA (F.ex) fun oc od kV doc pm an cdv ct osl zq9 lk hcd=>?_
  subst zq9
  exact .all (h kV doc pm an cdv ct)
theorem fun_mk {x qual:Str} {st:Stmt} {f:Addr} {oc:Value} {od an:Option Addr} {osl:Array (Option Value)} {kV doc pm cdv ct:Value} (l:K.lookup f = some ⟨oc,od,.func (PySem.W.fnOf x qual (defArgs st) (defBody st) (defScope st) .none kV doc pm an cdv ct),osl⟩)
    (c:PySem.W.codeIn K cdv qual = true) (k:PySem.W.keepIn K (.ref f) = true):Fun K x qual st f (PySem.W.fnOf x qual (defArgs st) (defBody st) (defScope st) .none kV doc pm an cdv ct):=⟨⟨oc,od,kV,doc,pm,an,cdv,ct,osl,rfl,l,c⟩,k⟩
end
section
variable {X:Cx}
theorem pv (i:Nat) {x:Str} {pos:Pos} (hN:autoParam (X.N[i]? = some x) L2.ar._auto_1) (hv:Vis X.env.scope x:=by first | exact Or.inl rfl | exact Or.inr (Or.inl rfl) | exact Or.inr (Or.inr rfl)) (hd:autoParam ((x == ("__debug__":Str)) = false) L2.ad._auto_1)
    (hcd:autoParam ((x == ("__classdict__":Str)) = false) L2.ad._auto_1):PE X (.Name x pos) (tVar i):=pe_var hN hv hd hcd
end
noncomputable def Same (H H':Hp):Prop:=∀ b o,H b = some o → H' b = some o
theorem Same.refl (H:Hp):Same H H:=fun _ _ h=>h
theorem Same.trans {H H1 H2:Hp} (a:Same H H1) (b:Same H1 H2):Same H H2:=fun c o h=>b c o (a c o h)
theorem Same.free {H H':Hp} (e:Same H H') {l:Addr} (h:H' l = Option.none):H l = Option.none:=by
  cases q:H l with
  | none=>rfl
  | some o=>
    rw [e l o q] at h
    exact L2.no_sn h
theorem Same.seq {K:PySem.W.Frag} {H H':Hp} {a:Addr} {xs:List V} (e:Same H H') (h:SqL K H a xs):SqL K H' a xs:=by
  rcases h with (h | ⟨o,h⟩) | h
  · exact .inl (.inl (e _ _ h))
  · exact .inl (.inr ⟨o,e _ _ h⟩)
  · exact .inr h
end L2
namespace L2
open PySem PySem.Spec PyProof.Rows
noncomputable def TabAt (P:Program) (K:PySem.W.Frag) (p:Addr):Prop:=∃ x c,x ∈ lamNames P ∧ PySem.W.tabIn K x = some (c,p)
open Classical in
theorem law_callT {P:Program} {w:World} {K:PySem.W.Frag} {mg mb:Str → Option Value} {CX:CXT} {k:Nat} {fa a:Addr} {fd:FuncData} {x:Str} {sp:Sp} {s₁:Shared} {vs:List Value} {ns:List Int}
    (KX:K.In s₁.heap) (hns:s₁.heap.Ns mainGlobals mg) (hb:s₁.heap.Ns builtinsNs mb) (hbb:∀ x:Str,x ≠ "__name__" → mb x = bootBuiltins x) (hlim:s₁.heap.NoLimit) (hg:s₁.gens = #[])
    (ha:s₁.heap.get? a = some { cls:=.type "list",data:=.seq vs.toArray }) (hi:IntsAre vs ns) (hl:ns.length ≤ sizeLine) (hr:Room k callerA)
    (hT:∀ x c p,x ∈ lamNames P → PySem.W.tabIn K x = some (c,p) → PySem.W.CodeHd s₁.heap c p ∧ s₁.heap.get? p = some (PySem.W.tabObj #[])) (hTK:∀ x c p,x ∈ lamNames P → PySem.W.tabIn K x = some (c,p) → K.lookup p = none)
    (hBm:∃ bm ob,mg "__builtins__" = some (.ref bm) ∧ bm ≠ builtinsNs ∧ s₁.heap.get? bm = some ob ∧ ob.cls = .type "module" ∧ ob.dict = some builtinsNs ∧ ob.data = .plain)
    (F:∀ base:Heap,K.In base → base.Ns mainGlobals mg → FnOk P w K mg base CX k fa fd [x] sp) (hbind:∀ (s:Shared) (u:Value),BindsTo s fd ⟨[u],[]⟩ [(x,u)])
    (hsp:∀ H:Hp,SqL K H a (ns.map V.int) → sp [.ref a] H (fun v _=>v = .bl true) fun _ _ _=>False)
    (hCX:∀ H e s',CX [] H s₁ (fun _ _ _=>False) e s' → False) :
    codeAny (model P w) callerA (.call (.ref fa) ⟨[.ref a],[]⟩) (fun r s'=>r = .ok (.ret (.bool true)) ∧ OldK s₁.heap s'.heap ∧ s'.os = s₁.os ∧ AllBare s'.gens) s₁:=by
  have rv:=vals_ints hi
  have lenV:=hi.length
  have objT:∀ {b:Addr},TabAt P K b → s₁.heap.get? b = some (PySem.W.tabObj #[]):=fun {b} ⟨y,c,h1,h2⟩=>(hT y c b h1 h2).2
  have aT:¬ TabAt P K a:=fun z=>by have q:=objT z; rw [ha] at q; cases q
  have core:∀ H:Hp,SqL K H a (ns.map V.int) → HOk P w H s₁.heap → (∀ b u,H b = some u → (b = a ∧ ∃ o xs,u = .frz o (.lst xs)) ∨ (u = .tab ∧ TabAt P K b)) → (∀ b,TabAt P K b → H b = some .tab) → (H a ≠ none → K.lookup a = none) →
      codeAny (model P w) callerA (.call (.ref fa) ⟨[.ref a],[]⟩) (fun r s'=>r = .ok (.ret (.bool true)) ∧ OldK s₁.heap s'.heap ∧ s'.os = s₁.os ∧ AllBare s'.gens) s₁:=by
    intro H hS hok hA hTt hK
    have base_of:∀ {b:Addr} {o:Obj},s₁.heap.get? b = some o → H b = none → (hidT s₁.heap H).get? b = some o:=fun e n=>hidT_get e n
    have free_of:∀ {b:Addr} {o:Obj},s₁.heap.get? b = some o → o ≠ { cls:=.type "list",data:=.seq vs.toArray } → o ≠ PySem.W.tabObj #[] → H b = none:=fun {b o} e n1 n2=>by
      cases q:H b with
      | none=>rfl
      | some u=>
        rcases hA b u q with ⟨rfl,_⟩ | ⟨_,z⟩
        · rw [ha] at e; exact absurd (Option.some.inj e).symm n1
        · have:=objT z; rw [e] at this; exact absurd (Option.some.inj this) n2
    have noA:∀ {b:Addr} {o:Obj} {es:Array DictEntry} {ep:Nat},s₁.heap.get? b = some o → o.data = .dict es ep → H b = none:=fun {b o es ep} e d=>free_of e (fun z=>by rw [z] at d; cases d) (fun z=>by rw [z] at d; cases d)
    have nsK:∀ {b:Addr} {m:Str → Option Value},s₁.heap.Ns b m → (hidT s₁.heap H).Ns b m:=fun {b m} ⟨o,es,ep,e,d,r⟩=>⟨o,es,ep,base_of e (noA e d),d,r⟩
    have hKb:K.In (hidT s₁.heap H):=fun b o e=>base_of (KX b o e) (by
      cases q:H b with
      | none=>rfl
      | some u=>
        rcases hA b u q with ⟨rfl,_⟩ | ⟨_,y,c,h1,h2⟩
        · rw [hK (by rw [q]; simp)] at e; cases e
        · rw [hTK y c b h1 h2] at e; cases e)
    have hM:Mod K mg (hidT s₁.heap H):=⟨hKb,nsK hns,⟨mb,nsK hb,hbb⟩,let ⟨mc,h1,h2⟩:=hlim; ⟨mc,nsK h1,h2⟩⟩
    have hTb:TabsOk P K mg (hidT s₁.heap H) H:=fun y c p h1 h2=>by
      have hp:=(hT y c p h1 h2).2
      refine ⟨hTt p ⟨y,c,h1,h2⟩,?_,?_⟩
      · refine L2.o_EEEEEEEEEAA ((hT y c p h1 h2).1) fun o vs' file tf flags tg inF text tt e1 e2 r=>?_
        exact L2.i_EEEEEEEEEAA (o) (vs') (file) (tf) (flags) (tg) (inF) (text) (tt) (base_of e1 (free_of e1 (fun z=>by rw [z] at e2; exact absurd e2 (by simp)) fun z=>by rw [z] at e2; exact absurd e2 (by simp))) (e2) (r)
      · refine L2.o_EEAAAAA (hBm) fun bm ob b1 b2 b3 b4 b5 b6=>?_
        refine L2.i_EEAAAAAAA (bm) (ob) (b1) (b2) (fun q=>?_) (fun q=>?_) (base_of b3 (free_of b3 (fun z=>by rw [z] at b4; exact absurd b4 (by simp)) fun z=>by rw [z] at b4; exact absurd b4 (by simp))) (b4) (b5) (b6)
        · refine L2.o_EEEAA (hns) fun o es ep e hd _=>?_
          rw [q,e] at b3; cases b3; rw [hd] at b6; cases b6
        · rw [q,hp] at b3; cases b3; cases b4
    have e0:Env0 P w K mg (hidT s₁.heap H) callerA [] s₁ H:=⟨rfl,hM,fun b o e=>of_hidT e,Nat.le_of_eq (hidT_size _ _),trivial,fun b hb=>absurd (show b ∈ ([]:List Addr) from hb) (by simp),hok,.of_eq hg,hTb⟩
    refine codeAny_mono ((F _ hKb (nsK hns)).run callerA [] s₁ H ⟨[.ref a],[]⟩ [.ref a] [.ref a] _ _ hr e0 (hbind s₁ (.ref a)) (.cons rfl .nil) (hsp H hS)) fun r s' h=>?_
    cases r with
    | error e=>exact (hCX H e s' h).elim
    | ok fl=>
      cases fl with
      | next=>exact False.elim h
      | brk=>exact False.elim h
      | cont=>exact False.elim h
      | ret u=>
        refine L2.o_EEAAAAA (h) fun v H' os bare un hok' r' q=>?_
        have q':v = .bl true:=q
        subst q'
        obtain rfl:u = Value.bool true:=r'
        have all:∀ b o,s₁.heap.get? b = some o → asItWas s₁.heap s'.heap b o ∧ ∃ o',s'.heap.get? b = some o':=fun b o e=>by
          cases q:H b with
          | none=>
            have z:=un.keep b o e q (by intro z; exact absurd (show b ∈ ([]:List Addr) from z) (by simp)) (by simp)
            exact ⟨.inl z,o,z⟩
          | some u=>
            rcases hA b u q with ⟨_,ob,xs,rfl⟩ | ⟨rfl,y,c,h1,h2⟩
            · have z2:=un.frzs b ob _ q
              refine L2.o_A (hok b _ q) fun e1 _=>?_
              refine L2.o_A (hok' b _ z2) fun e2 _=>?_
              rw [e] at e1; cases e1
              exact ⟨.inl e2,o,e2⟩
            · refine L2.o_EA (hok' b _ (un.tabs b q)) fun ps e2 _=>?_
              refine L2.o_A (hT y c b h1 h2) fun hc hp=>?_
              rw [hp] at e; cases e
              exact ⟨.inr (.inl ⟨(hc.tab hp).isCodeTable,rfl,#[],ps,rfl,by rw [e2]; simp⟩),_,e2⟩
        exact ⟨rfl,⟨fun b o e=>(all b o e).1,fun b o e=>(all b o e).2⟩,os,bare⟩
  have okT:∀ (H:Hp) (b:Addr),TabAt P K b → ObjOk P w H s₁.heap b .tab:=fun H b z=>⟨#[],objT z,trivial,fun pos c q=>by cases q⟩
  cases hk:K.lookup a with
  | some o=>
    have e:=KX a o hk
    rw [ha] at e
    obtain rfl:=Option.some.inj e
    refine core (fun b=>if TabAt P K b then some .tab else none) (.inr ⟨_,vs.toArray,_,hk,rfl,rfl,rfl,by rw [List.size_toArray,lenV]; exact hl,by simpa using rv⟩) (fun b u z=>?_) (fun b u z=>?_) (fun b z=>if_pos z) fun z=>absurd (if_neg aT) z
    · by_cases hb:TabAt P K b
      · have z':=(if_pos hb).symm.trans z
        obtain rfl:=Option.some.inj z'
        exact okT _ b hb
      · have z':=(if_neg hb).symm.trans z
        exact L2.no_ns z'
    · by_cases hb:TabAt P K b
      · have z':=(if_pos hb).symm.trans z
        obtain rfl:=Option.some.inj z'
        exact .inr ⟨rfl,hb⟩
      · have z':=(if_neg hb).symm.trans z
        exact L2.no_ns z'
  | none=>
    refine core (fun b=>if b = a then some (.frz { cls:=.type "list",data:=.seq vs.toArray } (.lst (ns.map V.int))) else if TabAt P K b then some .tab else none) (.inl (.inr ⟨{ cls:=.type "list",data:=.seq vs.toArray },if_pos rfl⟩)) (fun b u z=>?_) (fun b u z=>?_) (fun b z=>?_) fun _=>hk
    · by_cases hb:b = a
      · have z':=(if_pos hb).symm.trans z
        obtain rfl:=Option.some.inj z'
        subst hb
        exact L2.i_AAEEA (ha) (by rw [List.length_map]; exact hl) (vs) (_) (rv) (ha)
      · have z':=(if_neg hb).symm.trans z
        by_cases hb2:TabAt P K b
        · have z2:=(if_pos hb2).symm.trans z'
          obtain rfl:=Option.some.inj z2
          exact okT _ b hb2
        · have z2:=(if_neg hb2).symm.trans z'
          exact L2.no_ns z2
    · by_cases hb:b = a
      · have z':=(if_pos hb).symm.trans z
        obtain rfl:=Option.some.inj z'
        exact .inl ⟨hb,_,_,rfl⟩
      · have z':=(if_neg hb).symm.trans z
        by_cases hb2:TabAt P K b
        · have z2:=(if_pos hb2).symm.trans z'
          obtain rfl:=Option.some.inj z2
          exact .inr ⟨rfl,hb2⟩
        · have z2:=(if_neg hb2).symm.trans z'
          exact L2.no_ns z2
    · have hb:b ≠ a:=fun e=>aT (e ▸ z)
      rw [if_neg hb,if_pos z]
theorem walk_ofT {l:PySem.W.OpenLaw} {n k:Nat} {q:Program} {loose:List Str} {XP:(Str → Option Value) → Heap → Prop} {YP:World → Heap → Prop} {d:DefRec} {K:Params → PySem.W.Frag} {CX:World → CXT} {sp:World → Sp} {x:Str}
    (hn:l.most = some n) (hn2:n ≤ sizeLine) (hdf:d.params.defaults = []) (hr:Room k callerA)
    (hY:∀ (w:World) (h:Heap),YP w h → (K w.params).In h)
    (hq:∀ y ∈ lamNames l.prog,((recsOf q).find? fun e=>e.name == y).isSome = true) (hTK:∀ (w:World) (y:Str) (c p:Addr),y ∈ lamNames l.prog → PySem.W.tabIn (K w.params) y = some (c,p) → (K w.params).lookup p = none)
    (F:∀ (w:World) (mg:Str → Option Value) (fa:Addr) (h:Heap),(K w.params).In h → h.Ns mainGlobals mg → mg d.name = some (.ref fa) →
      ∃ fd:FuncData,(∀ (s:Shared) (u:Value),BindsTo s fd ⟨[u],[]⟩ [(x,u)]) ∧
        ∀ base:Heap,(K w.params).In base → base.Ns mainGlobals mg → FnOk l.prog w (K w.params) mg base (CX w) k fa fd [x] (sp w))
    (hsp:∀ (w:World) (H:Hp) (a:Addr) (ns:List Int),ns.length ≤ n → SqL (K w.params) H a (ns.map V.int) → sp w [.ref a] H (fun v _=>v = .bl true) fun _ _ _=>False)
    (hCX:∀ (w:World) (H:Hp) (s:Shared) (e:Value) (s':Shared),CX w [] H s (fun _ _ _=>False) e s' → False) :
    PySem.W.WalkO q loose XP YP l.row.toRowW d [] (fun f vs=>PySem.call f vs):=by
  refine Att.attach_call hn hdf fun w s₀ s₁ mg mb fa o pm cd doc a vs ns G Y ho hd hcd hmg hobj hints hlen hg=>?_
  have KX:=hY w _ Y
  refine L2.o_EA (F w mg fa _ KX G.T.g hmg) fun fd hb hF=>?_
  refine law_callT KX G.T.g G.T.b G.T.builtins G.T.nolimit hg hobj hints (Nat.le_trans hlen hn2) hr (fun y c p h1 h2=>?_) (hTK w) G.T.bmain hF hb (fun H hS=>hsp w H a ns hlen hS) fun H e s'=>hCX w H s₁ e s'
  refine L2.o_E (Option.isSome_iff_exists.mp (hq y h1)) fun r hr'=>?_
  exact PySem.W.tab_of G.T KX hr' h2
end L2
namespace L2
open PySem PySem.Spec PyProof.Rows
theorem walkX_of {q:Program} {loose:List Str} {XP:(Str → Option Value) → Heap → Prop} {K:Params → PySem.W.Frag} {as:List Addr} {n t:Nat} {r:PySem.W.RowW} {d:DefRec} {kwd:List (Str × Expr)} {run:Value → List Value → Sem Value}
    (e:∀ P,as = (K P).map (fun x=>x.fst)) (h:PySem.W.WalkO q loose XP (fun w h=>(K w.params).In h) r d kwd run):PySem.W.WalkX q loose XP (PySem.W.X.obsZ as) (PySem.W.X.valZ K n t) r d kwd run:=by
  intro w s₀ s₁ mg mb G Y a o pm cd doc dV kV ho hd hcd hD hmg hg args vals as' L hpre hlay hrd hwl hlo
  have Y1:(PySem.W.kHook K as e).obs s₀ = (PySem.W.kHook K as e).val w:=congrArg (fun z=>z.1) Y
  have Y2:(K w.params).In s₀.heap:=PySem.W.kIn_of ((PySem.W.kHook K as e).of w s₀ Y1)
  exact h w s₀ s₁ mg mb G (fun b o q=>L.keeps b o (Y2 b o q)) a o pm cd doc dV kV ho hd hcd hD hmg hg args vals as' hpre hlay hrd hwl hlo
end L2
namespace L2
open PySem PySem.Spec PyProof.Rows
theorem forIn_pureStep {α β:Type} {f:α → β → Sem (ForInStep β)} {g:β → α → β}:∀ (l:List α) (b:β),(∀ x ∈ l,∀ b,f x b = pure (ForInStep.yield (g b x))) → forIn l b f = (pure (l.foldl g b):Sem β)
  | [],b,_=>rfl
  | x :: r,b,h=>by
    rw [List.forIn_cons,h x List.mem_cons_self b]
    simp only [pure_bind,List.foldl_cons]
    exact forIn_pureStep r (g b x) fun y hy=>h y (List.mem_cons_of_mem _ hy)
noncomputable def cloStep (env:Env) (b:List (Str × Addr)) (x:Str × NameKind):List (Str × Addr):=if x.2 == .free then (x.1,(env.cells.lookup x.1).getD 0) :: b else b
noncomputable def cloOf (scope:Scope) (env:Env):List (Str × Addr):=scope.names.foldl (cloStep env) []
theorem closure_is {scope:Scope} {env:Env} (h:∀ x ∈ scope.names,x.2 = .free → ∃ c,env.cells.lookup x.1 = some c):closureFor scope env = pure (cloOf scope env):=by
  simp only [closureFor]
  rw [forIn_pureStep (g:=cloStep env) scope.names [] ?_]
  · rfl
  · rintro ⟨n,k⟩ hx b
    unfold cloStep
    by_cases hk:(k == NameKind.free) = true
    · refine L2.o_E (h (n,k) hx (by simpa using hk)) fun c hc=>?_
      simp only [hk,if_true,cellOf,hc,Option.getD_some,pure_bind]
    · simp only [hk,Bool.false_eq_true,if_false]
theorem clo_mem {env:Env}:∀ (l:List (Str × NameKind)) (b:List (Str × Addr)) (p:Str × Addr),p ∈ l.foldl (cloStep env) b → p ∈ b ∨ ∃ x ∈ l,x.2 = .free ∧ p = (x.1,(env.cells.lookup x.1).getD 0)
  | [],b,p,h=>.inl h
  | x :: r,b,p,h=>by
    rcases clo_mem r (cloStep env b x) p h with q | ⟨y,hy,e⟩
    · unfold cloStep at q
      by_cases hk:(x.2 == NameKind.free) = true
      · rw [if_pos hk] at q
        rcases List.mem_cons.mp q with q | q
        · exact .inr ⟨x,List.mem_cons_self,by simpa using hk,q⟩
        · exact .inl q
      · rw [if_neg hk] at q
        exact .inl q
    · exact .inr ⟨y,List.mem_cons_of_mem _ hy,e⟩
theorem clo_old {env:Env}:∀ (l:List (Str × NameKind)) (b:List (Str × Addr)) (p:Str × Addr),p ∈ b → p ∈ l.foldl (cloStep env) b
  | [],b,p,h=>h
  | x :: r,b,p,h=>clo_old r _ p (by unfold cloStep; split; exact List.mem_cons_of_mem _ h; exact h)
theorem clo_new {env:Env} (l:List (Str × NameKind)):∀ (b:List (Str × Addr)) (x:Str × NameKind),x ∈ l → x.2 = .free → (x.1,(env.cells.lookup x.1).getD 0) ∈ l.foldl (cloStep env) b:=by
  induction l with
  | nil=>exact fun b x h=>absurd h List.not_mem_nil
  | cons y r ih=>
    intro b x h e
    rcases List.mem_cons.mp h with rfl | h
    · refine clo_old r _ _ ?_
      unfold cloStep
      rw [if_pos (by rw [e]; rfl)]
      exact List.mem_cons_self
    · exact ih _ x h e
theorem lookup_mem {l:List (Str × Addr)} {n:Str} {c:Addr} (h:(n,c) ∈ l):∃ d,l.lookup n = some d:=by
  induction l with
  | nil=>cases h
  | cons p r ih=>
    obtain ⟨m,d⟩:=p
    by_cases e:n = m
    · subst e
      exact ⟨d,by simp [List.lookup_cons]⟩
    · rcases List.mem_cons.mp h with q | q
      · cases q
        exact absurd rfl e
      · refine L2.o_E (ih q) fun d' q'=>?_
        exact ⟨d',by rw [List.lookup_cons,show (n == m) = false by simpa using e]; exact q'⟩
theorem clo_in {scope:Scope} {env:Env} (h:∀ x ∈ scope.names,x.2 = .free → ∃ c,env.cells.lookup x.1 = some c) {n:Str} {c:Addr} (e:(cloOf scope env).lookup n = some c):env.cells.lookup n = some c:=by
  rcases clo_mem scope.names [] (n,c) (PySem.mem_of_lookup e) with q | ⟨x,hx,hf,q⟩
  · cases q
  · refine L2.o_E (h x hx hf) fun d hd=>?_
    cases q
    rw [hd]
    rfl
theorem clo_has {scope:Scope} {env:Env} {n:Str} (h:(n,NameKind.free) ∈ scope.names):∃ c,(cloOf scope env).lookup n = some c:=
  lookup_mem (clo_new scope.names [] (n,.free) h rfl)
structure CompSc (sc:Scope) (XN:List Str) (scope:Scope) (k:Nat) (N:List Str) (ix:List Nat):Prop where
  kind:scope.kind = .function
  okind:sc.kind = .function
  nocell:∀ y ∈ scope.names,y.2 ≠ .cell
  loc:∀ y ∈ scope.names,y.2 = .local → scope.names.lookup y.1 = some .local
  fr:∀ y ∈ scope.names,y.2 = .free → sc.names.lookup y.1 = some .cell
  sl:ix.map (fun i=>XN[i]?) = (N.drop k).map some
  frl:∀ x ∈ N.drop k,scope.names.lookup x = some .free
  len:N.length = k + ix.length
noncomputable def cxComp (X:Cx) (N:List Str) (scope:Scope) (cl:List (Str × Addr)) (C:Addr) (s3:Shared) (H3:Hp) (fp:List Addr) (pins:List (Addr × Obj)):Cx:=
  { X with N:=N,s₀:=s3,H₀:=H3,env:=compEnvC scope cl C X.env,outer:=X.stack,stack:=X.stack,ex:=fp,fn:=fun _=>false,pn:=X.pn ++ pins }
theorem relabel_free {scope:Scope} {env:Env} {x:Str} (hk:env.scope.kind = .function) (he:env.kindOf x = some .cell) (h:scope.names.lookup x = some .free):(relabel scope env).names.lookup x = some .cell:=by
  have go:∀ names:List (Str × NameKind),names.lookup x = some .free →
      (names.map fun (n,k)=>if (k == NameKind.free && env.scope.kind == .function && env.kindOf n == some .cell) then (n,NameKind.cell) else (n,k)).lookup x = some .cell:=by
    intro names
    induction names with
    | nil=>intro h; cases h
    | cons p r ih=>
      obtain ⟨n,k⟩:=p
      intro h
      rw [List.map_cons]
      by_cases e:x = n
      · subst e
        have hkf:k = .free:=by simpa [List.lookup_cons] using h
        subst hkf
        simp [List.lookup_cons,hk,he]
      · have e':(x == n) = false:=by simpa using e
        rw [List.lookup_cons,e'] at h
        have q:=ih h
        dsimp only
        split
        · rw [List.lookup_cons,e']
          exact q
        · rw [List.lookup_cons,e']
          exact q
  exact go _ h
theorem relabel_mem {scope:Scope} {env:Env} {x:Str} {k:NameKind} (hc:∀ y ∈ scope.names,y.2 ≠ .cell) (h:(relabel scope env).names.lookup x = some k) (hk:k = .cell ∨ k = .free):(x,NameKind.free) ∈ scope.names:=by
  obtain ⟨⟨n,k'⟩,hm,e⟩:=List.mem_map.mp (PySem.mem_of_lookup h)
  dsimp only at e
  split at e
  · rename_i hq
    cases e
    have:k' = .free:=by
      have:=(Bool.and_eq_true_iff.mp (Bool.and_eq_true_iff.mp hq).1).1
      simpa using this
    subst this
    exact hm
  · cases e
    rcases hk with rfl | rfl
    · exact absurd rfl (hc _ hm)
    · exact hm
section
variable {X:Cx} {pins:List (Addr × Obj)} {σ:St} {H:Hp} {s:Shared} {scope:Scope} {k:Nat} {N:List Str} {ix:List Nat} {sc:Scope} {fp:List Addr}
theorem comp_cells (I:Inv X pins σ H s) (hsc:X.env.scope = sc) (S:CompSc sc X.N scope k N ix):∀ x ∈ scope.names,x.2 = .free → ∃ c,X.env.cells.lookup x.1 = some c:=fun x hx hf=>
  I.ok.has x.1 (.inl (by show X.env.scope.names.lookup x.1 = _; rw [hsc]; exact S.fr x hx hf))
theorem fp_stk (I:Inv X pins σ H s) {b:Addr} (h1:b ≠ X.env.locals) (h2:b ∉ X.fs):b ∉ frs X.stack:=fun hb=>by
  rcases List.mem_cons.mp (I.stkSub b hb) with e | e
  · exact h1 e
  · exact h2 e
theorem comp_ok (I:Inv X pins σ H s) (hsc:X.env.scope = sc) (S:CompSc sc X.N scope k N ix) (hf:∀ b ∈ fp,FpOk X pins H b) (hlt:∀ b ∈ fp,b < s.heap.objs.size) :
    (cxComp X N scope (cloOf scope X.env) s.heap.objs.size s H fp pins).Ok:=by
  have hcl:=comp_cells I hsc S
  refine ⟨I.ok.mod,S.kind,I.ok.glob,I.ok.blt,Nat.le_refl _,fun x y c h1 h2=>I.ok.inj x y c (clo_in hcl h1) (clo_in hcl h2),fun x hx=>?_,fun x c h=>(by cases (show false = true from h)),I.ok.hd,I.ok.frames,.inl rfl,fun b hb=>⟨Nat.ne_of_lt (hlt b hb),fun x c e=>?_⟩,
    I.bs,Nat.le_trans I.ok.bsz I.sz,fun b o e hb=>?_,fun b hb=>fp_stk I (hf b hb).2.1 (hf b hb).2.2.1,I.stack,I.stkFree,fun x c p h1 h2=>let z:=I.ok.tabs x c p h1 h2; ⟨I.base.tabs p z.1,z.2⟩⟩
  · have hx':(x,NameKind.free) ∈ scope.names:=by
      rcases hx with hx | hx
      · exact relabel_mem S.nocell hx (.inl rfl)
      · exact relabel_mem S.nocell hx (.inr rfl)
    exact clo_has hx'
  · exact (hf b hb).2.2.2.2.1 x c (clo_in hcl e)
  · rcases (hf b hb).2.2.2.1 with z | z
    · exact I.ok.noex b o e z
    · exact absurd (Nat.lt_of_lt_of_le (Heap.lt_size (I.ok.bs b o e).1) z) (Nat.lt_irrefl _)
noncomputable def stComp (k:Nat) (ix:List Nat) (σ:St):St:=List.replicate k none ++ ix.map fun i=>(σ[i]?).getD none
theorem comp_start (I:Inv X pins σ H s) (hsc:X.env.scope = sc) (S:CompSc sc X.N scope k N ix) (hf:∀ b ∈ fp,FpOk X pins H b) (hlt:∀ b ∈ fp,b < s.heap.objs.size) {h':Heap} {t:Nat} {m:Str → Option Value}
    (hns:h'.Ns s.heap.objs.size m) (hk:∀ b o,s.heap.get? b = some o → h'.get? b = some o) :
    Inv (cxComp X N scope (cloOf scope X.env) s.heap.objs.size s H fp pins) [] (stComp k ix σ) H { s with heap:=h',toks:=t }:=by
  have hcl:=comp_cells I hsc S
  have hkind:X.env.scope.kind = .function:=by rw [hsc]; exact S.okind
  have cellK:∀ c v,s.heap.IsCell c v → h'.IsCell c v:=fun c v ⟨o,e,d⟩=>⟨o,hk c o e,d⟩
  refine ⟨comp_ok I hsc S hf hlt,rfl,I.bare,Un.kept hk,⟨m,hns,fun i x v e1 e2 e3=>?_⟩,fun x c e=>?_,I.hok.fresh (Nat.le_refl _),fun x c e=>(I.freeC x c (clo_in hcl e)).imp id fun z=>⟨rfl,z.2⟩,fun p hp=>?_,I.hok.kept hk,?_⟩
  · unfold stComp at e2
    by_cases hi:i < k
    · rw [List.getElem?_append_left (by simpa using hi),List.getElem?_replicate,if_pos hi] at e2
      cases e2
    · have hj:k ≤ i:=Nat.le_of_not_lt hi
      rw [List.getElem?_append_right (by simpa using hj),List.getElem?_map] at e2
      simp only [List.length_replicate] at e2
      cases hix:ix[i - k]? with
      | none=>rw [hix] at e2; cases e2
      | some j=>
        rw [hix] at e2
        have e2':(σ[j]?).getD none = some v:=Option.some.inj e2
        have hσ:σ[j]? = some (some v):=by
          cases q:σ[j]? with
          | none=>rw [q] at e2'; cases e2'
          | some w=>rw [q] at e2'; exact congrArg some e2'
        have hd:(N.drop k)[i - k]? = some x:=by
          rw [List.getElem?_drop]
          have:k + (i - k) = i:=by (clear hσ e2' hix e2 hj e1 hlt; omega)
          rw [this]
          exact e1
        have hXN:X.N[j]? = some x:=by
          have q:=congrArg (fun l=>l[i - k]?) S.sl
          simp only [List.getElem?_map,hix,hd,Option.map_some] at q
          exact Option.some.inj q
        have hfree:=S.frl x (List.mem_of_getElem? hd)
        have hmem:=PySem.mem_of_lookup hfree
        have hout:X.env.kindOf x = some .cell:=by
          show X.env.scope.names.lookup x = _
          rw [hsc]
          exact S.fr _ hmem rfl
        refine L2.o_EA (I.loc) fun m0 hn0 hl0=>?_
        refine L2.o_EA (hl0 j x v hXN hσ (.inr (.inl hout))) fun u r l=>?_
        refine ⟨u,r,.inr ⟨.inl (relabel_free hkind hout hfree),?_⟩⟩
        rcases l with ⟨q,_⟩ | ⟨_,c,hc,z⟩
        · rw [hout] at q; cases q
        · refine L2.o_E (clo_has (env:=X.env) hmem) fun c' hc'=>?_
          have e':=clo_in hcl hc'
          rw [hc] at e'
          obtain rfl:=Option.some.inj e'
          exact ⟨c,hc',cellK c _ z⟩
  · refine L2.o_E (I.cell x c (clo_in hcl e)) fun v z=>?_
    exact ⟨v,cellK c v z⟩
  · have hp':p ∈ X.pn ++ pins:=by simpa [cxComp] using hp
    refine L2.o_AAAA (I.pin p hp') fun e n ne nf d=>?_
    exact ⟨hk _ _ e,n,Nat.ne_of_lt (Heap.lt_size e),fp_stk I ne nf,d⟩
  · unfold stComp
    show _ = N.length
    rw [S.len,List.length_append,List.length_replicate,List.length_map]
theorem Un.other {fs ex:List Addr} {H H':Hp} {h h1 h2:Heap} (u:Un fs ex H H' h h1) (e:∀ b,b < h.objs.size → h2.get? b = h1.get? b):Un fs ex H H' h h2 where
  keep:=fun b o q n hb hx=>(e b (Heap.lt_size q)).trans (u.keep b o q n hb hx)
  slot:=fun b o q n hb hx=>by obtain ⟨sl,z⟩:=u.slot b o q n hb hx; exact ⟨sl,(e b (Heap.lt_size q)).trans z⟩
  free:=u.free
  there:=fun b o q hx=>by obtain ⟨o',z⟩:=u.there b o q hx; exact ⟨o',(e b (Heap.lt_size q)).trans z⟩
  tups:=u.tups
  frzs:=u.frzs
  tbls:=u.tbls
  tabs:=u.tabs
theorem comp_after {σ':St} {H':Hp} {s':Shared} {h':Heap} {scope:Scope} {cl:List (Str × Addr)} (I:Inv X pins σ H s) (hf:∀ b ∈ fp,FpOk X pins H b)
    (J:Inv (cxComp X N scope cl s.heap.objs.size s H fp pins) [] σ' H' s') (hs:Heap.SameBut s.heap.objs.size s'.heap h'):Inv X pins σ H' { s' with heap:=h' }:=by
  have un:Un (frs X.stack) fp H H' s.heap s'.heap:=J.base
  have fr:H' s.heap.objs.size = none:=J.free
  refine I.call' (s':={ s' with heap:=h' }) (ch:=fp) J.os (un.other fun b hb=>hs.2 b (Nat.ne_of_lt hb)) (fun b o e=>?_) J.bare fun b hb=>⟨(hf b hb).2.2.2.1,(hf b hb).2.1,(hf b hb).2.2.2.2.1,(hf b hb).2.2.2.2.2⟩
  refine (J.hok b o e).stay (fun c u hc q=>(hs.2 c ?_).trans q) (fun _ q=>q) fun _ _ q=>q
  rcases hc with hc | hc
  · rw [hc]; exact ne_of_none e fr
  · exact ne_of_none hc fr
end
noncomputable def tTrue:TT:=fun _ H Q=>Q true H
noncomputable def PIf (X:Cx) (ifs:List Expr) (t:TT):Prop:=
  ∀ (pins:List (Addr × Obj)) (s:Shared) (σ:St) (H:Hp) (Q:Bool → Hp → Prop),Inv X pins σ H s → t σ H Q →
    wpAny (model X.prog X.w) X.A (forIn ifs true fun c r=>if r = true then do let ok ← isTrue c X.env (eval c X.env); pure (ForInStep.yield ok) else pure (ForInStep.yield r)) (TP X pins σ Q) X.xe s
theorem pif_nil {X:Cx}:PIf X [] tTrue:=fun pins s σ H Q I h=>wpAny_tests_nil ⟨H,I,h⟩
theorem pif_one {X:Cx} {c:Expr} {t:TT} (h:PT X c t):PIf X [c] t:=fun pins s σ H Q I q=>wpAny_tests_one (h pins s σ H Q I q)
theorem comp_loop {prog:Program} {w:World} {A:Around} {R:Result → Shared → Prop} {s:Shared} {elt target iter:Expr} {ifs:List Expr} {scope:Scope} {pos:Pos} {it acc:Value} {env:Env} (J:Nat → Shared → Prop)
    (turn:∀ n s,J n s → wpAny (model prog w) A (pyNext it) (fun r s1=>match r with
      | none=>R (.ok .next) s1
      | some v=>wpAny (model prog w) A (letOwnedTupleGo target it v) (fun _ s1'=>wpAny (model prog w) A (assign target env v) (fun _ s2=>
          wpAny (model prog w) A (forIn ifs true fun c r=>if r = true then do let ok ← isTrue c env (eval c env); pure (ForInStep.yield ok) else pure (ForInStep.yield r)) (fun ok s3=>
            if ok = true then wpAny (model prog w) A (eval elt env) (fun x s4=>
              wpAny (model prog w) A (call (.builtin "list.append") [acc,x]) (fun _ s5=>∃ m,m < n ∧ J m s5) (fun _ _=>False) s4) (fun _ _=>False) s3
            else ∃ m,m < n ∧ J m s3) (fun _ _=>False) s2) (fun _ _=>False) s1') (fun _ _=>False) s1) (fun _ _=>False) s)
    (n:Nat) (h:J n s):codeAny (model prog w) A (.compLoop (.ListComp elt [⟨target,iter,ifs,0⟩] scope pos) 0 it acc env) R s:=by
  refine codeAny_loop rfl J (fun n s hJ=>?_) n h
  show wpAny _ A ((compTurn (.ListComp elt [⟨target,iter,ifs,0⟩] scope pos) 0 it acc env).onRaise _) _ _ s
  refine wpAny_noted ?_
  rw [compTurn_list]
  refine wpAny_bind (wpAny_standAt (wpAny_bind (wpAny_mono (turn n s hJ) (fun r s1 h1=>?_) fun _ _ z=>False.elim z)))
  cases r with
  | none=>exact wpAny_pure h1
  | some v=>
    refine wpAny_bind (wpAny_mono h1 (fun _ s1' h1'=>wpAny_bind (wpAny_mono h1' (fun _ s2 h2=>wpAny_bind (wpAny_mono h2 (fun ok s3 h3=>?_) fun _ _ z=>False.elim z)) fun _ _ z=>False.elim z)) fun _ _ z=>False.elim z)
    cases ok with
    | false=>exact wpAny_pure ⟨rfl,h3⟩
    | true=>
      refine wpAny_bind (wpAny_bind (wpAny_mono h3 (fun x s4 h4=>wpAny_bind (wpAny_mono h4 (fun _ s5 h5=>?_) fun _ _ z=>False.elim z)) fun _ _ z=>False.elim z))
      exact wpAny_pure (wpAny_pure ⟨rfl,h5⟩)
noncomputable def tComp (wi:TI) (g:TG) (tc:TT) (te:TE) (st:St → St):TE:=fun σ H Q=>wi σ H fun J H1=>∀ D,H1 D = none → ∃ W:Nat → Nat → St → Hp → Prop,(∃ m,W 0 m (st σ) (upd H1 D (.lst []))) ∧ ∀ i m τ H2,W i m τ H2 →
  (J.stop i H2 ∧ Q (.ref D) H2) ∨ (J.go i H2 ∧ ∃ N:St → Hp → Prop,(∀ τ' H',N τ' H' → ∃ m',m' < m ∧ W (i + 1) m' τ' H') ∧ ∀ x H3,J.yld i H2 x H3 → g x τ H3 fun τ2 H4=>tc τ2 H4 fun b H5=>
    if b = true then te τ2 H5 fun y H6=>∃ ys,H6 D = some (.lst ys) ∧ ys.length < sizeLine ∧ N τ2 (upd H6 D (.lst (ys ++ [y]))) else N τ2 H5)
theorem comp_run {Y:Cx} {elt tg iter:Expr} {ifs:List Expr} {scope:Scope} {pos:Pos} {g:TG} {tc:TT} {te:TE} {R:Result → Shared → Prop} {it D:Addr} {fp:List Addr} {tn:Nat → Heap → Prop} {J:It} {W:Nat → Nat → St → Hp → Prop} {Q:VK}
    (hx:Y.xe = fun _ _=>False) (hc:Y.calm = true) (hg:PG Y tg g) (ht:PIf Y ifs tc) (he:PE Y elt te) (T:Turn Y.prog Y.w Y.K tg J fp it tn) (fok:∀ {H':Hp},(∀ b ∈ fp,H' b = none) → ∀ b ∈ fp,FpOk Y [] H' b)
    (turn:∀ i m τ H2,W i m τ H2 → (J.stop i H2 ∧ Q (.ref D) H2) ∨ (J.go i H2 ∧ ∃ N:St → Hp → Prop,(∀ τ' H',N τ' H' → ∃ m',m' < m ∧ W (i + 1) m' τ' H') ∧ ∀ x H3,J.yld i H2 x H3 → g x τ H3 fun τ2 H4=>tc τ2 H4 fun b H5=>
      if b = true then te τ2 H5 fun y H6=>∃ ys,H6 D = some (.lst ys) ∧ ys.length < sizeLine ∧ N τ2 (upd H6 D (.lst (ys ++ [y]))) else N τ2 H5))
    (fin:∀ τ H5 s6,Inv Y [] τ H5 s6 → Q (.ref D) H5 → R (.ok .next) s6) {m0:Nat} {τ0:St} {H0:Hp} {s4:Shared} (I4:Inv Y [] τ0 H0 s4) (st4:tn 0 s4.heap) (fr4:∀ b ∈ fp,H0 b = none) (w0:W 0 m0 τ0 H0) :
    codeAny (model Y.prog Y.w) Y.A (.compLoop (.ListComp elt [⟨tg,iter,ifs,0⟩] scope pos) 0 (.ref it) (.ref D) Y.env) R s4:=by
  refine comp_loop (fun n s'=>∃ i τ H',Inv Y [] τ H' s' ∧ tn i s'.heap ∧ (∀ b ∈ fp,H' b = none) ∧ W i n τ H') ?_ m0 (L2.i_EEEAAA (0) (_) (_) (I4) (st4) (fr4) (w0))
  intro n s5 zpat
  refine L2.o_EEEAAA (zpat) fun i τ H5 I5 st5 fr5 w5=>?_
  rcases turn i n τ H5 w5 with ⟨stop,qn⟩ | ⟨go,NX,hN,step⟩
  · refine thn (T.done Y rfl rfl rfl hc i [] s5 τ H5 _ I5 (fok fr5) st5 stop) fun r s6 zpat=>?_
    refine L2.o_A (zpat) fun hr I6=>?_
    subst hr
    exact fin τ H5 s6 I6 qn
  · refine thn (T.item Y rfl rfl rfl hc i [] s5 τ H5 _ I5 (fok fr5) st5 go) fun r s6 zpat=>?_
    refine L2.o_EA (zpat) fun u hr h6=>?_
    subst hr
    refine thn h6 fun _ s7 zpat=>?_
    refine L2.o_EEAAAA (zpat) fun x H7 I7 r7 y7 st7 fr7=>?_
    have again:∀ {τ9:St} {H9:Hp} {s9:Shared},Inv Y ([] ++ pinsAt fp s7.heap) τ9 H9 s9 → NX τ9 H9 → ∃ m,m < n ∧ ∃ i τ H',Inv Y [] τ H' s9 ∧ tn i s9.heap ∧ (∀ b ∈ fp,H' b = none) ∧ W i m τ H':=fun {τ9 H9 s9} I9 n9=>by
      refine L2.o_EA (hN τ9 H9 n9) fun m' hm w9=>?_
      refine L2.i_EAEEEAAA (m') (hm) (i + 1) (τ9) (H9) (I9.unpinned) (T.keep _ _ _ st7 fun b hb o q=>(I9.pin (b,o) (List.mem_append_right _ (List.mem_append_right _ (mem_pinsAt hb q)))).1) (fun b hb=>?_) (w9)
      refine L2.o_EA (T.obj _ _ st7 b hb) fun o q _=>?_
      exact (I9.pin (b,o) (List.mem_append_right _ (List.mem_append_right _ (mem_pinsAt hb q)))).2.1
    have G:=hg _ s7 τ H7 x u _ (I7.pinned (fok fr7) (T.obj _ _ st7)) r7 (step x H7 y7)
    rw [hx] at G
    refine thn G fun _ s8 zpat=>?_
    refine L2.o_EEA (zpat) fun τ8 H8 I8 q8=>?_
    have Tt:=ht _ s8 τ8 H8 _ I8 q8
    rw [hx] at Tt
    refine thn Tt fun b s9 zpat=>?_
    obtain ⟨H9,I9,q9⟩:=zpat
    cases b with
    | false=>
      rw [if_neg Bool.false_ne_true] at q9 ⊢
      exact again I9 q9
    | true=>
      rw [if_pos rfl] at q9 ⊢
      have Te:=he _ s9 τ8 H9 _ I9 q9
      rw [hx] at Te
      refine thn Te fun xv s10 zpat=>?_
      obtain ⟨y,H10,I10,r10,ys,hy,hz,n10⟩:=zpat
      have Ap:=mt_append (X:=Y) _ s10 τ8 H10 (.ref D) [y] (.ref D) [xv] (fun _ H'=>NX τ8 H') I10 rfl (.cons r10 .nil) ⟨D,ys,y,rfl,rfl,hy,hz,n10⟩
      rw [hx] at Ap
      refine thn Ap fun _ s11 zpat=>?_
      obtain ⟨_,H11,I11,_,n11⟩:=zpat
      exact again I11 n11
theorem comp_gen {X:Cx} {elt tg iter:Expr} {ifs:List Expr} {scope:Scope} {pos cpos:Pos} {wi:TI} {g:TG} {tc:TT} {te:TE} {k:Nat} {N:List Str} {ix:List Nat} (sc:Scope) (hsc:X.env.scope = sc) (S:CompSc sc X.N scope k N ix)
    (hx:X.xe = fun _ _=>False) (hc:X.calm = true) (hi:PI X tg iter wi)
    (hg:∀ cl C s3 H3 fp pins,PG (cxComp X N scope cl C s3 H3 fp pins) tg g) (ht:∀ cl C s3 H3 fp pins,PIf (cxComp X N scope cl C s3 H3 fp pins) ifs tc) (he:∀ cl C s3 H3 fp pins,PE (cxComp X N scope cl C s3 H3 fp pins) elt te)
    {use:Option (Value → Sem Unit)} {QQ:Value → Shared → Prop} (pins:List (Addr × Obj)) (s:Shared) (σ:St) (H:Hp) (Q:VK) (I:Inv X pins σ H s) (h:tComp wi g tc te (stComp k ix) σ H Q)
    (hend:∀ (D C:Addr) (H5:Hp) (s6:Shared),(∀ h',Heap.SameBut C s6.heap h' → Inv X pins σ H5 { s6 with heap:=h' }) → (∃ m6,s6.heap.Ns C m6) → FpOk X pins H5 C → Q (.ref D) H5 → compPost (model X.prog X.w) X.A X.xe use QQ (.ref D) C (.ok .next) s6)
    (hs:∀ x,foldedSetIterable iter X.env x = pure x:=by intro _; rfl):wpAny (model X.prog X.w) X.A (comprehension (.ListComp elt [⟨tg,iter,ifs,0⟩] scope pos) scope X.env cpos (newList []) false (eval iter X.env) use) QQ X.xe s:=by
  refine wpAny_comprehension_free (use:=use) rfl hs (closure_is (comp_cells I hsc S)) S.kind S.loc (thn (hi pins s σ H _ I h) fun v s1 h1=>thn h1 fun itv s2 h2=>?_)
  refine L2.o_EEEEEAAAAA (h2) fun it fp tn J H2 e I2 T st2 f2 q2=>?_
  subst e
  refine wpAny_newObj_type ?_ (by show 0 ≤ sizeLine; exact Nat.zero_le _)
  have hDn:H2 s2.heap.objs.size = none:=I2.hok.fresh (Nat.le_refl _)
  obtain ⟨W,⟨m0,w0⟩,turn⟩:=q2 s2.heap.objs.size hDn
  have kp3:∀ b o,s2.heap.get? b = some o → (s2.heap.push { cls:=.type "list",data:=.seq ([]:List Value).toArray }).get? b = some o:=fun b o q=>Heap.get?_push_of_some _ q
  have I3:Inv X pins σ (upd H2 s2.heap.objs.size (.lst [])) { s2 with heap:=s2.heap.push { cls:=.type "list",data:=.seq ([]:List Value).toArray } }:=
    I2.laid (t':=s2.toks) kp3 (Nat.le_refl _) ⟨Nat.zero_le _,[],0,.nil,Heap.get?_push_size _ rfl⟩
  have hlt2:∀ b ∈ fp,b < s2.heap.objs.size:=fun b hb=>by obtain ⟨o,q,_⟩:=T.obj _ _ st2 b hb; exact Heap.lt_size q
  have f3:∀ b ∈ fp,FpOk X pins (upd H2 s2.heap.objs.size (.lst [])) b:=fun b hb=>⟨by rw [upd_ne (Nat.ne_of_lt (hlt2 b hb))]; exact (f2 b hb).1,(f2 b hb).2⟩
  generalize hs3:({ s2 with heap:=s2.heap.push { cls:=.type "list",data:=.seq ([]:List Value).toArray } }:Shared) = s3 at I3
  have st3:tn 0 s3.heap:=by rw [← hs3]; exact T.keep _ _ _ st2 fun b hb o q=>kp3 b o q
  have hlt3:∀ b ∈ fp,b < s3.heap.objs.size:=fun b hb=>by obtain ⟨o,q,_⟩:=T.obj _ _ st3 b hb; exact Heap.lt_size q
  generalize s2.heap.objs.size = D at w0 turn I3 f3 hDn
  generalize upd H2 D (.lst []) = H3 at w0 I3 f3
  refine wpAny_newFunctionEnv S.nocell (by intro y hy; cases hy) (fun h4 hns hsb=>?_) S.kind
  have kp4:∀ b o,s3.heap.get? b = some o → h4.get? b = some o:=fun b o q=>hsb.extBut b o (Nat.ne_of_lt (Heap.lt_size q)) (Heap.get?_push_of_some _ q)
  have I4:=comp_start (t:=s3.toks + ([]:List (Str × Value)).length) I3 hsc S f3 hlt3 hns kp4
  have st4:tn 0 h4:=T.keep _ _ _ st3 fun b hb o q=>kp4 b o q
  have loop:∀ s4:Shared,s4 = { s3 with heap:=h4,toks:=s3.toks + ([]:List (Str × Value)).length } →
      codeAny (model X.prog X.w) X.A (.compLoop (.ListComp elt [⟨tg,iter,ifs,0⟩] scope pos) 0 (.ref it) (.ref D) (compEnvC scope (cloOf scope X.env) s3.heap.objs.size X.env))
        (compPost (model X.prog X.w) X.A X.xe use QQ (.ref D) s3.heap.objs.size) s4:=by
    rintro s4 rfl
    have fok:∀ {H':Hp},(∀ b ∈ fp,H' b = none) → ∀ b ∈ fp,FpOk (cxComp X N scope (cloOf scope X.env) s3.heap.objs.size s3 H3 fp pins) [] H' b:=fun {H'} hn b hb=>
      ⟨hn b hb,Nat.ne_of_lt (hlt3 b hb),fp_stk I3 (f3 b hb).2.1 (f3 b hb).2.2.1,.inl hb,fun x c e=>(f3 b hb).2.2.2.2.1 x c (clo_in (comp_cells I3 hsc S) e),fun p hp=>(f3 b hb).2.2.2.2.2 p (by simpa [cxComp] using hp)⟩
    exact comp_run (Y:=cxComp X N scope (cloOf scope X.env) s3.heap.objs.size s3 H3 fp pins) hx hc (hg _ _ _ _ _ _) (ht _ _ _ _ _ _) (he _ _ _ _ _ _) T fok turn (fun τ H5 s6 I6 qn=>by
      refine L2.o_EA (I6.loc) fun m6 hn6 _=>?_
      exact hend D _ H5 s6 (fun h' hs'=>comp_after I3 f3 I6 hs') ⟨m6,hn6⟩ (I3.fpOk (Nat.le_refl _) I6.free) qn) I4 st4 (fun b hb=>(f3 b hb).1) w0
  subst hs3
  exact codeAny_compStart_list (loop _ rfl) (T.self _ 0 _ _ _ st4 (loop _ rfl))
theorem pe_comp {X:Cx} {elt tg iter:Expr} {ifs:List Expr} {scope:Scope} {pos:Pos} {wi:TI} {g:TG} {tc:TT} {te:TE} {k:Nat} {N:List Str} {ix:List Nat} (sc:Scope) (hsc:X.env.scope = sc) (S:CompSc sc X.N scope k N ix)
    (hx:X.xe = fun _ _=>False) (hc:X.calm = true) (hi:PI X tg iter wi)
    (hg:∀ cl C s3 H3 fp pins,PG (cxComp X N scope cl C s3 H3 fp pins) tg g) (ht:∀ cl C s3 H3 fp pins,PIf (cxComp X N scope cl C s3 H3 fp pins) ifs tc) (he:∀ cl C s3 H3 fp pins,PE (cxComp X N scope cl C s3 H3 fp pins) elt te)
    (hs:∀ x,foldedSetIterable iter X.env x = pure x:=by intro _; rfl):PE X (.ListComp elt [⟨tg,iter,ifs,0⟩] scope pos) (tComp wi g tc te (stComp k ix)):=by
  intro pins s σ H Q I h
  rw [eval_ListComp]
  show wpAny _ X.A (comprehension (.ListComp elt [⟨tg,iter,ifs,0⟩] scope pos) scope X.env _ (newList []) false (eval iter X.env) none) _ _ s
  refine comp_gen sc hsc S hx hc hi hg ht he (use:=none) (QQ:=EP X pins σ Q) pins s σ H Q I h (fun D C H5 s6 hI hm hf q=>?_) hs
  refine L2.o_E (hm) fun m6 hn6=>?_
  exact ⟨m6,hn6,fun h' hs'=>⟨.ref D,H5,hI h' hs',rfl,q⟩⟩
theorem ps_setC {X:Cx} {i:Nat} {x:Str} {pos' spos:Pos} {elt tg iter:Expr} {ifs:List Expr} {scope:Scope} {pos:Pos} {wi:TI} {g:TG} {tc:TT} {te:TE} {k:Nat} {N:List Str} {ix:List Nat} (hN:X.N.Nodup) (hi':X.N[i]? = some x) (hx':Loc X.env.scope x) (sc:Scope) (hsc:X.env.scope = sc) (S:CompSc sc X.N scope k N ix)
    (hx:X.xe = fun _ _=>False) (hc:X.calm = true) (hi:PI X tg iter wi)
    (hg:∀ cl C s3 H3 fp pins,PG (cxComp X N scope cl C s3 H3 fp pins) tg g) (ht:∀ cl C s3 H3 fp pins,PIf (cxComp X N scope cl C s3 H3 fp pins) ifs tc) (he:∀ cl C s3 H3 fp pins,PE (cxComp X N scope cl C s3 H3 fp pins) elt te)
    (hsw:autoParam (swapsWith (.ListComp elt [⟨tg,iter,ifs,0⟩] scope pos) (some (.Name x pos')) spos.line X.env = pure true) L2.ar._auto_1) (hf:X.fn x = true ∨ X.env.scope.names.lookup x = some .local:=by first | exact .inl rfl | exact .inr rfl | assumption)
    (hs:∀ x,foldedSetIterable iter X.env x = pure x:=by intro _; rfl):PS X (.Assign [.Name x pos'] (.ListComp elt [⟨tg,iter,ifs,0⟩] scope pos) spos) (tAsg (tComp wi g tc te (stComp k ix)) (gName i)):=by
  intro pins s σ H D I h
  rw [exec_Assign_Name_used _ _ _ _ hsw]
  refine wpAny_bind (wpAny_standAt (wpAny_bind ?_))
  show wpAny _ X.A (do let _ ← comprehension (.ListComp elt [⟨tg,iter,ifs,0⟩] scope pos) scope X.env _ (newList []) false (eval iter X.env) (some (assign (.Name x pos') X.env))) _ _ s
  refine wpAny_bind (wpAny_mono (comp_gen sc hsc S hx hc hi hg ht he (use:=some (assign (.Name x pos') X.env)) (QQ:=fun _ s'=>SP X pins D .next s') pins s σ H _ I h (fun D' C H5 s6 hI hm hfp q=>?_) hs) (fun _ s' hq=>wpAny_pure (wpAny_pure hq)) fun _ _ e=>e)
  refine L2.o_E (hm) fun m6 hn6=>?_
  have I6:Inv X pins σ H5 s6:=hI s6.heap (Heap.SameBut.refl _ _)
  show wpAny _ X.A (assign (.Name x pos') X.env (.ref D')) _ _ s6
  refine wpAny_assign_Name (store_ok2 I6 hN hi' hx' (v:=.ref D') rfl (fun s7 I7 hs7=>?_) hf)
  refine L2.o_EA (hs7) fun a hsb ha=>?_
  have hne:C ≠ a:=by
    rcases ha with rfl | ha
    · exact hfp.2.1
    · exact fun z=>hfp.2.2.2.2.1 x a ha z.symm
  refine ⟨m6,hn6.sameBut hsb hne,fun h' hs'=>⟨_,H5,?_,q⟩⟩
  have:=Inv.turned (t':=s7.toks) (it:=C) (h':=h') I7 (fun b o hb e=>(hs'.2 b hb).trans e) hfp.1 hfp.2.1 hfp.2.2.2.1 hfp.2.2.2.2.1 hfp.2.2.2.2.2
  exact this
end L2
namespace L2
open PySem PySem.Spec PyProof.Rows
theorem Same.tup {K:PySem.W.Frag} {H H':Hp} {a:Addr} {xs:List V} (e:Same H H') (h:SqT K H a xs):SqT K H' a xs:=by
  rcases h with (h | ⟨o,h⟩) | h
  · exact .inl (.inl (e _ _ h))
  · exact .inl (.inr ⟨o,e _ _ h⟩)
  · exact .inr h
noncomputable def rCatS (K:PySem.W.Frag):R2:=fun x y H Q=>∃ l b xs zs,x = .ref l ∧ y = .ref b ∧ SqL K H l xs ∧ SqL K H b zs ∧ xs.length + zs.length ≤ sizeLine ∧ ∀ p,H p = none → Q (.ref p) (upd H p (.lst (xs ++ zs)))
theorem op_catS {X:Cx}:OpR X (binaryOp .Add) (rCatS X.K):=by
  intro pins s σ H x y v u Q I rx ry h
  revert h
  refine fun zqq=>L2.o_EEEEAAAAA zqq fun l b xs zs zq4 zq5 hH hB hz q=>?_
  clear zqq
  subst zq4
  subst zq5
  cases rx
  cases ry
  refine L2.o_EAA (I.list hH) fun its r pl hz1=>?_
  refine L2.o_EAA (I.list hB) fun its2 r2 pl2 hz2=>?_
  have l1:=r.length
  have l2:=r2.length
  obtain ⟨⟨cls,dd,data,sl⟩,ho,hc,n,hd⟩:=pl.isList
  obtain ⟨⟨cls2,dd2,data2,sl2⟩,ho2,hc2,n2,hd2⟩:=pl2.isList
  simp only at hc hd hc2 hd2
  subst hc hd hc2 hd2
  have ea:its.toArray ++ its2.toArray = (its ++ its2).toArray:=by simp
  refine concat_meets ⟨_,ho,rfl⟩ ⟨_,ho2,rfl⟩ noFill_list_add seq_list_add PySem.F.slot_list_add PySem.F.entry_list_add (PySem.F.args_list_add_2 _ _) (list_addW l b its.toArray its2.toArray n n2 dd dd2 sl sl2 (by simp only [List.size_toArray]; (clear hz2 hz1; omega))) ⟨ho,ho2,?_⟩
  rw [ea]
  exact ⟨.ref _,_,I.lnew (t':=s.toks) (r.append r2) (by rw [List.length_append]; exact hz),rfl,q _ I.fresh⟩
noncomputable def big:Nat:=2 ^ 1000
theorem bits_of_big {a:Int} (h:a.natAbs < big):Builtin.Int.intBits a ≤ 2 ^ 20:=by
  unfold Builtin.Int.intBits
  by_cases h0:a = 0
  · subst h0; simp
  · have h1:a.natAbs ≠ 0:=by (clear h; omega)
    have h2:a.natAbs.log2 < 1000:=(Nat.log2_lt h1).mpr h
    have h3:(a == 0) = false:=by simpa using h0
    rw [h3]
    simp only [Bool.false_eq_true,if_false]
    have:(2:Nat) ^ 20 = 1048576:=by decide
    (clear this h1 h0 h; omega)
theorem log_of_big {a:Int} (h:a.natAbs < big):a.natAbs.log2 < 9000:=by
  by_cases h0:a.natAbs = 0
  · rw [h0]; decide +kernel
  · have h2:a.natAbs.log2 < 1000:=(Nat.log2_lt h0).mpr h
    (clear h0 h; omega)
noncomputable def CMulB (i j:Int):Prop:=(i.natAbs < big ∧ j.natAbs < big) ∨ CMul i j
noncomputable def CDivB (_ j:Int):Prop:=j ≠ 0 ∧ j.natAbs < big
theorem op_mulB {X:Cx}:OpR X (binaryOp .Mult) (rI CMulB fun i j=>.int (i * j)):=opI fun _ _ _ _ _ _ _ hc q=>mul_int q (hc.elim (fun z=>.of_bits (bits_of_big z.1) (bits_of_big z.2)) CMul.ok)
theorem op_fdivB {X:Cx}:OpR X (binaryOp .FloorDiv) (rI CDivB fun i j=>.int (i.fdiv j)):=opI fun _ _ _ _ _ _ _ hc q=>floordiv_int hc.1 q (.inl (PyProof.noPylong_of_log2 (log_of_big hc.2)))
set_option genInjectivity false in
structure Lam where
  qual:Str
  params:Arguments
  body:Expr
  scope:Scope
  ps:List Str
  free:List Str
class Reg where
  reg:Str → Option Lam
variable [Reg]
noncomputable def fz (a:Addr) (o:Obj):HO:=.frz o (.ext fun h=>h.get? a = some o)
noncomputable def LamAt (H:Hp) (g:Addr) (L:Lam) (cv:List V):Prop:=
  ∃ (clos:List (Str × Addr)) (pm:Value) (c':Addr) (ctv:Value) (oc:Obj) (vs:Array Value) (q:Str) (t:Tok) (φ:HO),H g = some (fz g (PySem.W.kla_obj "<lambda>" L.qual L.params L.body L.scope clos pm c' ctv)) ∧ H c' = some (.frz oc φ) ∧ oc.data = .fields vs ∧ vs[1]? = some (.str q t) ∧ cv.length = clos.length ∧
    clos.map (fun z=>z.1) = L.free ∧ (clos.map (fun z=>z.2)).Nodup ∧ ∀ (i:Nat) (z:Str × Addr) (v:V),clos[i]? = some z → cv[i]? = some v → ∃ u o,H z.2 = some (fz z.2 o) ∧ o.data = .cell (some u) ∧ RelV v u
noncomputable def FnV (K:PySem.W.Frag) (H:Hp) (g:Addr) (tag:Str) (cv:List V):Prop:=
  (Reg.reg tag = none ∧ cv = [] ∧ PySem.W.nsIn K mainGlobals tag = some (some (.ref g))) ∨ ∃ L,Reg.reg tag = some L ∧ LamAt H g L cv
theorem LamAt.mono {H H':Hp} {g:Addr} {L:Lam} {cv:List V} (e:Same H H') (h:LamAt H g L cv):LamAt H' g L cv:=by
  refine L2.o_EEEEEEEEEAAAAAAA (h) fun clos pm c' ctv oc vs q t φ h1 h2 h3 h4 h5 h6 h7 h8=>?_
  exact L2.i_EEEEEEEEEAAAAAAA (clos) (pm) (c') (ctv) (oc) (vs) (q) (t) (φ) (e _ _ h1) (e _ _ h2) (h3) (h4) (h5) (h6) (h7) (fun i q v a b=>let ⟨u,o,x,y⟩:=h8 i q v a b; ⟨u,o,e _ _ x,y⟩)
theorem FnV.mono {K:PySem.W.Frag} {H H':Hp} {g:Addr} {tag:Str} {cv:List V} (e:Same H H') (h:FnV K H g tag cv):FnV K H' g tag cv:=by
  rcases h with h | ⟨L,h1,h2⟩
  · exact .inl h
  · exact .inr ⟨L,h1,h2.mono e⟩
noncomputable def ExcV (K:PySem.W.Frag) (H:Hp) (e:Addr) (cls:Str) (fv:List (Str × V)):Prop:=
  ∃ (oe:Obj) (C:Addr) (vs:Array Value),H e = some (fz e oe) ∧ oe.cls = .ref C ∧ oe.data = .fields vs ∧ PySem.W.nsIn K mainGlobals cls = some (some (.ref C)) ∧ ((fv = [] ∧ oe.dict = none) ∨ ∃ dx,oe.dict = some dx ∧ H dx = some (.xd fv))
theorem ExcV.mono {K:PySem.W.Frag} {H H':Hp} {e:Addr} {cls:Str} {fv:List (Str × V)} (s:Same H H') (h:ExcV K H e cls fv):ExcV K H' e cls fv:=by
  refine L2.o_EEEAAAA (h) fun oe C vs h1 h2 h3 h4 h5=>?_
  refine L2.i_EEEAAAA (oe) (C) (vs) (s _ _ h1) (h2) (h3) (h4) ?_
  rcases h5 with h5 | ⟨dx,h5,h6⟩
  · exact .inl h5
  · exact .inr ⟨dx,h5,s _ _ h6⟩
noncomputable def excD (cls:Str) (fd:List PyData):PyData:=.dict [(.bool true,.str cls),(.none,.tuple fd)]
noncomputable def nmD (fv:List (Str × V)):List PyData:=fv.map fun p=>.str p.1
noncomputable def InsV (K:PySem.W.Frag) (H:Hp) (a:Addr) (cls:Str) (fs:List (Str × V)):Prop:=∃ C dx,H a = some (.ins C dx fs) ∧ PySem.W.nsIn K mainGlobals cls = some (some (.ref C))
theorem InsV.mono {K:PySem.W.Frag} {H H':Hp} {a:Addr} {cls:Str} {fs:List (Str × V)} (s:Same H H') (h:InsV K H a cls fs):InsV K H' a cls fs:=by
  refine L2.o_EEA (h) fun C dx h1 h2=>?_
  exact L2.i_EEA (C) (dx) (s _ _ h1) (h2)
noncomputable def objD (cls:Str) (ns:List Str) (fd:List PyData):PyData:=.dict [(.bool false,.str cls),(.none,.tuple (ns.map .str)),(.none,.tuple fd)]
mutual
inductive Den (K:PySem.W.Frag) (H:Hp):V → PyData → Prop
  | non:Den K H .non .none
  | bl (b:Bool):Den K H (.bl b) (.bool b)
  | int (i:Int):Den K H (.int i) (.int i)
  | str (x:Str):Den K H (.str x) (.str x)
  | tup {a:Addr} {vs:List V} {ds:List PyData}:SqT K H a vs → DenL K H vs ds → Den K H (.ref a) (.tuple ds)
  | lst {a:Addr} {vs:List V} {ds:List PyData}:SqL K H a vs → DenL K H vs ds → Den K H (.ref a) (.list ds)
  | fn {g:Addr} {tag:Str} {cv:List V} {caps:List PyData}:FnV K H g tag cv → DenL K H cv caps → Den K H (.ref g) (.dict [(.none,.str tag),(.none,.tuple caps)])
  | exc {e:Addr} {cls:Str} {fv:List (Str × V)} {fd:List PyData}:ExcV K H e cls fv → DenL K H (fv.map (·.2)) fd → Den K H (.ref e) (.dict [(.bool true,.str cls),(.none,.tuple (nmD fv ++ fd))])
  | obj {a:Addr} {cls:Str} {fs:List (Str × V)} {fd:List PyData}:InsV K H a cls fs → DenL K H (fs.map (·.2)) fd → Den K H (.ref a) (.dict [(.bool false,.str cls),(.none,.tuple ((fs.map (·.1)).map .str)),(.none,.tuple fd)])
inductive DenL (K:PySem.W.Frag) (H:Hp):List V → List PyData → Prop
  | nil:DenL K H [] []
  | cons {v:V} {d:PyData} {vs:List V} {ds:List PyData}:Den K H v d → DenL K H vs ds → DenL K H (v :: vs) (d :: ds)
end
section
variable {K:PySem.W.Frag} {H H':Hp}
theorem Den.mono (e:Same H H') {v:V} {d:PyData} (h:Den K H v d):Den K H' v d:=
  Den.rec (motive_1:=fun v d _=>Den K H' v d) (motive_2:=fun vs ds _=>DenL K H' vs ds) .non .bl .int .str (fun h _ r=>.tup (e.tup h) r) (fun h _ r=>.lst (e.seq h) r) (fun h _ r=>.fn (h.mono e) r) (fun h _ r=>.exc (h.mono e) r) (fun h _ r=>.obj (h.mono e) r) .nil (fun _ _ a b=>.cons a b) h
theorem DenL.mono (e:Same H H') {vs:List V} {ds:List PyData} (h:DenL K H vs ds):DenL K H' vs ds:=
  DenL.rec (motive_1:=fun v d _=>Den K H' v d) (motive_2:=fun vs ds _=>DenL K H' vs ds) .non .bl .int .str (fun h _ r=>.tup (e.tup h) r) (fun h _ r=>.lst (e.seq h) r) (fun h _ r=>.fn (h.mono e) r) (fun h _ r=>.exc (h.mono e) r) (fun h _ r=>.obj (h.mono e) r) .nil (fun _ _ a b=>.cons a b) h
theorem DenL.ind {M:List V → List PyData → Prop} (n:M [] []) (c:∀ {v d vs ds},Den K H v d → DenL K H vs ds → M vs ds → M (v :: vs) (d :: ds)) {vs:List V} {ds:List PyData} (h:DenL K H vs ds):M vs ds:=
  DenL.rec (motive_1:=fun _ _ _=>True) (motive_2:=fun vs ds _=>M vs ds) trivial (fun _=>trivial) (fun _=>trivial) (fun _=>trivial) (fun _ _ _=>trivial) (fun _ _ _=>trivial) (fun _ _ _=>trivial) (fun _ _ _=>trivial) (fun _ _ _=>trivial) n (fun h r _ ih=>c h r ih) h
theorem DenL.length {vs:List V} {ds:List PyData} (h:DenL K H vs ds):vs.length = ds.length:=h.ind (M:=fun vs ds=>vs.length = ds.length) rfl fun _ _ ih=>congrArg (· + 1) ih
theorem DenL.get {vs:List V} {ds:List PyData} {i:Nat} {d:PyData} (h:DenL K H vs ds):ds[i]? = some d → ∃ v,vs[i]? = some v ∧ Den K H v d:=
  h.ind (M:=fun vs ds=>∀ i,ds[i]? = some d → ∃ v,vs[i]? = some v ∧ Den K H v d) (fun _ e=>by rw [List.getElem?_nil] at e; cases e) (fun h _ ih i=>by
    cases i with
    | zero=>intro e; cases e; exact ⟨_,rfl,h⟩
    | succ i=>exact ih i) i
theorem DenL.append {vs ws:List V} {ds es:List PyData} (h:DenL K H vs ds) (s:DenL K H ws es):DenL K H (vs ++ ws) (ds ++ es):=h.ind (M:=fun vs ds=>DenL K H (vs ++ ws) (ds ++ es)) s fun h _ ih=>.cons h ih
theorem DenL.set {v:V} {d:PyData} (h:Den K H v d):∀ {vs:List V} {ds:List PyData} (i:Nat),DenL K H vs ds → DenL K H (vs.set i v) (ds.set i d)
  | _,_,_,.nil=>.nil
  | _,_,0,.cons _ r=>.cons h r
  | _,_,i + 1,.cons q r=>.cons q (DenL.set h i r)
theorem DenL.take:∀ {vs:List V} {ds:List PyData} (n:Nat),DenL K H vs ds → DenL K H (vs.take n) (ds.take n)
  | _,_,0,_=>.nil
  | _,_,_ + 1,.nil=>.nil
  | _,_,n + 1,.cons h r=>.cons h (DenL.take n r)
theorem DenL.ints:∀ ns:List Int,DenL K H (ns.map V.int) (ns.map PyData.int)
  | []=>.nil
  | n :: r=>.cons (.int n) (DenL.ints r)
theorem DenL.atI {vs:List V} {ds:List PyData} {i:Int} {d:PyData} (r:DenL K H vs ds) (h:atI ds i = some d):∃ v,L2.atI vs i = some v ∧ Den K H v d:=by
  unfold L2.atI at h ⊢
  rw [← r.length] at h
  cases e:ixN vs.length i with
  | none=>rw [e] at h; cases h
  | some j=>
    rw [e] at h
    refine L2.o_EA (r.get h) fun v h1 h2=>?_
    exact ⟨v,h1,h2⟩
inductive Sc:V → PyData → Prop
  | non:Sc .non .none
  | bl (b:Bool):Sc (.bl b) (.bool b)
  | int (i:Int):Sc (.int i) (.int i)
  | str (x:Str):Sc (.str x) (.str x)
theorem Sc.den {v:V} {d:PyData} (h:Sc v d):Den K H v d:=by
  cases h with
  | non=>exact .non
  | bl b=>exact .bl b
  | int i=>exact .int i
  | str x=>exact .str x
theorem den_int {v:V} {i:Int} (h:Den K H v (.int i)):v = .int i:=by cases h; rfl
theorem den_bl {v:V} {b:Bool} (h:Den K H v (.bool b)):v = .bl b:=by cases h; rfl
inductive DLst (K:PySem.W.Frag) (H:Hp) (v:V) (ds:List PyData):Prop
  | mk (a:Addr) (vs:List V) (e:v = .ref a) (q:SqL K H a vs) (r:DenL K H vs ds):DLst K H v ds
inductive DTup (K:PySem.W.Frag) (H:Hp) (v:V) (ds:List PyData):Prop
  | mk (a:Addr) (vs:List V) (e:v = .ref a) (q:SqT K H a vs) (r:DenL K H vs ds):DTup K H v ds
theorem den_lst {v:V} {ds:List PyData} (h:Den K H v (.list ds)):DLst K H v ds:=by cases h with | lst q r=>exact ⟨_,_,rfl,q,r⟩
theorem den_tup {v:V} {ds:List PyData} (h:Den K H v (.tuple ds)):DTup K H v ds:=by cases h with | tup q r=>exact ⟨_,_,rfl,q,r⟩
theorem denl_cons {vs:List V} {d:PyData} {ds:List PyData} (h:DenL K H vs (d :: ds)):∃ v ws,vs = v :: ws ∧ Den K H v d ∧ DenL K H ws ds:=by cases h with | cons q r=>exact ⟨_,_,rfl,q,r⟩
theorem denl_nil {vs:List V} (h:DenL K H vs []):vs = []:=by cases h; rfl
noncomputable def lf:PyData → Bool
  | .list _=>false
  | .dict _=>false
  | .tuple ds=>go ds
  | _=>true
where go:List PyData → Bool
  | []=>true
  | d :: r=>lf d && go r
end
section
variable {X:Cx} {pins:List (Addr × Obj)} {σ:St} {H:Hp} {s:Shared}
theorem Den.reads (I:Inv X pins σ H s) {v:V} {d:PyData} {u:Value} (h:Den X.K H v d) (z:d.canLay0 = true) (r:RelV v u):∃ as,Reads s.heap u d as:=by
  refine Den.rec (motive_1:=fun v d _=>d.canLay0 = true → ∀ u,RelV v u → ∃ as,Reads s.heap u d as) (motive_2:=fun vs ds _=>PyData.canLayAll0 ds = true → ∀ us,Vals vs us → ∃ as,ReadsAll s.heap us ds as) ?_ ?_ ?_ ?_ ?_ ?_ (fun _ _ _ z=>by simp [PyData.canLay0] at z) (fun _ _ _ z=>by simp [PyData.canLay0] at z) (fun _ _ _ z=>by simp [PyData.canLay0] at z) ?_ ?_ h z u r
  · intro _ u r; cases r; exact ⟨_,Reads.none⟩
  · intro b _ u r; cases r; exact ⟨_,Reads.bool b⟩
  · intro i _ u r; obtain ⟨t,rfl⟩:=r; exact ⟨_,Reads.int i t⟩
  · intro x _ u r; obtain ⟨t,rfl⟩:=r; exact ⟨_,Reads.str x t⟩
  · intro _ _ _ h _ ih z u r
    cases r
    obtain ⟨its,rv,⟨o,e,c,n,d⟩,_⟩:=I.tuple h
    refine L2.o_E (ih (by simpa [PyData.canLay0] using z) its rv) fun as z=>?_
    exact ⟨as,reads_tuple_at e c d (by simpa using z)⟩
  · intro _ _ _ h _ ih z u r
    cases r
    obtain ⟨its,rv,⟨o,n,e,c,_,d⟩,_⟩:=I.list h
    refine L2.o_E (ih (by simpa [PyData.canLay0] using z) its rv) fun as z=>?_
    exact ⟨_,reads_list_at e c d (by simpa using z)⟩
  · intro _ us r; cases r; exact ⟨_,ReadsAll.nil⟩
  · intro _ _ _ _ _ _ ih1 ih2 z us r
    rw [PyData.canLayAll0,Bool.and_eq_true] at z
    cases r with
    | cons r1 r2=>
      refine L2.o_E (ih1 z.1 _ r1) fun as z1=>?_
      refine L2.o_E (ih2 z.2 _ r2) fun bs y=>?_
      exact ⟨_,ReadsAll.cons z1 y⟩
noncomputable def rEqD (K:PySem.W.Frag):R2:=fun x y H Q=>∃ da db,Den K H x da ∧ Den K H y db ∧ SeqAt.shaped da = true ∧ SeqAt.shaped db = true ∧ Q (.bl (PyData.eqv da db)) H
noncomputable def rNeD (K:PySem.W.Frag):R2:=fun x y H Q=>∃ da db,Den K H x da ∧ Den K H y db ∧ SeqAt.shaped da = true ∧ SeqAt.shaped db = true ∧ Q (.bl (!PyData.eqv da db)) H
theorem op_eqD (hu:X.A.units + 64 < cLine):OpR X (compareOp .Eq) (rEqD X.K):=by
  intro pins s σ H x y v u Q I rx ry h
  refine L2.o_EEAAAA (h) fun da db ha hb sa sb q=>?_
  refine L2.o_E (ha.reads I (SeqAt.canLay_of_shaped sa) rx) fun as ra=>?_
  refine L2.o_E (hb.reads I (SeqAt.canLay_of_shaped sb) ry) fun bs rb=>?_
  exact eq_dataH ra rb sa sb hu (fin_bl I q rfl)
theorem op_neD (hu:X.A.units + 64 < cLine):OpR X (compareOp .NotEq) (rNeD X.K):=by
  intro pins s σ H x y v u Q I rx ry h
  refine L2.o_EEAAAA (h) fun da db ha hb sa sb q=>?_
  refine L2.o_E (ha.reads I (SeqAt.canLay_of_shaped sa) rx) fun as ra=>?_
  refine L2.o_E (hb.reads I (SeqAt.canLay_of_shaped sb) ry) fun bs rb=>?_
  exact ne_dataH ra rb sa sb hu (fin_bl I q rfl)
end
open Classical in
noncomputable def del (H:Hp) (P:Addr → Prop):Hp:=fun b=>if P b then none else H b
noncomputable def uni (hid:Addr → Prop) (ow:List Addr):Addr → Prop:=fun b=>hid b ∨ b ∈ ow
theorem del_in {H:Hp} {P:Addr → Prop} {b:Addr} (h:P b):del H P b = none:=by unfold del; rw [if_pos h]
theorem del_out {H:Hp} {P:Addr → Prop} {b:Addr} (h:¬ P b):del H P b = H b:=by unfold del; rw [if_neg h]
theorem del_same (H:Hp) (P:Addr → Prop):Same (del H P) H:=fun b o e=>by
  by_cases h:P b
  · rw [del_in h] at e; cases e
  · rw [del_out h] at e; exact e
theorem del_mono {H H':Hp} (e:Same H H') (P:Addr → Prop):Same (del H P) (del H' P):=fun b o q=>by
  by_cases h:P b
  · rw [del_in h] at q; cases q
  · rw [del_out h] at q ⊢; exact e b o q
theorem del_sub {H:Hp} {P Q:Addr → Prop} (h:∀ b,P b → Q b):Same (del H Q) (del H P):=fun b o q=>by
  by_cases hq:Q b
  · rw [del_in hq] at q; cases q
  · rw [del_out hq] at q
    rw [del_out fun z=>hq (h b z)]
    exact q
theorem del_false (H:Hp):del H (fun _=>False) = H:=by funext b; exact del_out (fun z=>z)
theorem uni_nil (hid:Addr → Prop):uni hid [] = hid:=by
  funext b
  unfold uni
  simp
theorem uni_in {hid:Addr → Prop} {ow:List Addr} {b:Addr} (h:b ∈ ow):uni hid ow b:=.inr h
theorem del_uni (H:Hp) (hid:Addr → Prop) (ow:List Addr):Same (del H (uni hid ow)) (del H hid):=del_sub fun _ z=>.inl z
theorem del_upd {H:Hp} {l:Addr} {P:Addr → Prop} {o:HO} (h:P l):del (upd H l o) P = del H P:=by
  funext b
  by_cases hb:P b
  · rw [del_in hb,del_in hb]
  · rw [del_out hb,del_out hb,upd_ne]
    rintro rfl
    exact hb h
theorem same_new {H:Hp} {p:Addr} {o:HO} (h:H p = none):Same H (upd H p o):=fun b u e=>by rw [upd_ne (ne_of_none e h)]; exact e
theorem del_new {H H':Hp} {p:Addr} {P Q:Addr → Prop} (s:Same H H') (h:H p = none) (hq:∀ b,Q b → P b ∨ b = p):Same (del H P) (del H' Q):=fun b u e=>by
  by_cases hb:P b
  · rw [del_in hb] at e; cases e
  · rw [del_out hb] at e
    have hne:b ≠ p:=ne_of_none e h
    rw [del_out fun z=>(hq b z).elim hb hne]
    exact s b u e
section
variable {K:PySem.W.Frag} {H:Hp} {hid:Addr → Prop} {ow:List Addr}
theorem del_lst (hi:∀ l ∈ ow,∃ vs,H l = some (.lst vs)) {a:Addr} {o:HO} (e:del H hid a = some o) (n:∀ vs,o ≠ .lst vs):del H (uni hid ow) a = some o:=by
  have e':=del_same _ _ a o e
  have nh:¬ hid a:=fun z=>by rw [del_in z] at e; cases e
  rw [del_out]
  · exact e'
  · rintro (z | z)
    · exact nh z
    · refine L2.o_E (hi a z) fun vs e2=>?_
      rw [e'] at e2
      exact n vs (Option.some.inj e2)
theorem SqT.clean (hi:∀ l ∈ ow,∃ vs,H l = some (.lst vs)) {a:Addr} {vs:List V} (q:SqT K (del H hid) a vs):SqT K (del H (uni hid ow)) a vs:=by
  rcases q with (q | ⟨o,q⟩) | q
  · exact .inl (.inl (del_lst hi q fun _ z=>by cases z))
  · exact .inl (.inr ⟨o,del_lst hi q fun _ z=>by cases z⟩)
  · exact .inr q
theorem Den.clean (hi:∀ l ∈ ow,∃ vs,H l = some (.lst vs)) {v:V} {d:PyData} (z:Den K (del H hid) v d):lf d = true → Den K (del H (uni hid ow)) v d:=
  Den.rec (motive_1:=fun v d _=>lf d = true → Den K (del H (uni hid ow)) v d) (motive_2:=fun vs ds _=>lf.go ds = true → DenL K (del H (uni hid ow)) vs ds) (fun _=>.non) (fun b _=>.bl b) (fun i _=>.int i) (fun x _=>.str x) (fun q _ r h=>.tup (q.clean hi) (r h)) (fun _ _ _ h=>by cases h) (fun _ _ _ h=>by cases h) (fun _ _ _ h=>by cases h) (fun _ _ _ h=>by cases h) (fun _=>.nil) (fun _ _ a b h=>by rw [lf.go,Bool.and_eq_true] at h; exact .cons (a h.1) (b h.2)) z
theorem DenL.clean (hi:∀ l ∈ ow,∃ vs,H l = some (.lst vs)) {vs:List V} {ds:List PyData} (z:DenL K (del H hid) vs ds):lf.go ds = true → DenL K (del H (uni hid ow)) vs ds:=
  DenL.rec (motive_1:=fun v d _=>lf d = true → Den K (del H (uni hid ow)) v d) (motive_2:=fun vs ds _=>lf.go ds = true → DenL K (del H (uni hid ow)) vs ds) (fun _=>.non) (fun b _=>.bl b) (fun i _=>.int i) (fun x _=>.str x) (fun q _ r h=>.tup (q.clean hi) (r h)) (fun _ _ _ h=>by cases h) (fun _ _ _ h=>by cases h) (fun _ _ _ h=>by cases h) (fun _ _ _ h=>by cases h) (fun _=>.nil) (fun _ _ a b h=>by rw [lf.go,Bool.and_eq_true] at h; exact .cons (a h.1) (b h.2)) z
end
noncomputable abbrev Rho:=List (Option PyData)
inductive Ty where
  | cl:Ty
  | lst:Ty → Ty
  | tup:List Ty → Ty
  | io:Addr → Ty
mutual
inductive DenO (K:PySem.W.Frag) (H C:Hp):Ty → V → PyData → List Addr → Prop
  | cl {v:V} {d:PyData}:Den K C v d → DenO K H C .cl v d []
  | non {t:Ty}:DenO K H C t .non .none []
  | lst {t:Ty} {a:Addr} {vs:List V} {ds:List PyData} {as:List Addr}:H a = some (.lst vs) → DenOs K H C t vs ds as → a ∉ as → DenO K H C (.lst t) (.ref a) (.list ds) (a :: as)
  | tup {ts:List Ty} {a:Addr} {vs:List V} {ds:List PyData} {as:List Addr}:SqT K C a vs → DenOp K H C ts vs ds as → DenO K H C (.tup ts) (.ref a) (.tuple ds) as
  | io {l:Addr} {vs:List V} {ds:List PyData}:H l = some (.lst vs) → DenL K C vs ds → DenO K H C (.io l) (.ref l) (.list ds) [l]
inductive DenOs (K:PySem.W.Frag) (H C:Hp):Ty → List V → List PyData → List Addr → Prop
  | nil {t:Ty}:DenOs K H C t [] [] []
  | cons {t:Ty} {v:V} {d:PyData} {vs:List V} {ds:List PyData} {as bs:List Addr}:DenO K H C t v d as → DenOs K H C t vs ds bs → (∀ p ∈ as,p ∉ bs) → DenOs K H C t (v :: vs) (d :: ds) (as ++ bs)
inductive DenOp (K:PySem.W.Frag) (H C:Hp):List Ty → List V → List PyData → List Addr → Prop
  | nil:DenOp K H C [] [] [] []
  | cons {t:Ty} {ts:List Ty} {v:V} {d:PyData} {vs:List V} {ds:List PyData} {as bs:List Addr}:DenO K H C t v d as → DenOp K H C ts vs ds bs → (∀ p ∈ as,p ∉ bs) → DenOp K H C (t :: ts) (v :: vs) (d :: ds) (as ++ bs)
end
section
variable {K:PySem.W.Frag} {H H' C C' G:Hp}
theorem DenO.mono (c:Same C C') {t:Ty} {v:V} {d:PyData} {as:List Addr} (h:DenO K H C t v d as):(∀ p ∈ as,∀ o,H p = some o → H' p = some o) → DenO K H' C' t v d as:=
  DenO.rec (motive_1:=fun t v d as _=>(∀ p ∈ as,∀ o,H p = some o → H' p = some o) → DenO K H' C' t v d as) (motive_2:=fun t v d as _=>(∀ p ∈ as,∀ o,H p = some o → H' p = some o) → DenOs K H' C' t v d as) (motive_3:=fun t v d as _=>(∀ p ∈ as,∀ o,H p = some o → H' p = some o) → DenOp K H' C' t v d as) (fun h _=>.cl (h.mono c)) (fun _=>.non) (fun h _ n r k=>.lst (k _ List.mem_cons_self _ h) (r fun p hp=>k p (List.mem_cons_of_mem _ hp)) n) (fun h _ r k=>.tup (c.tup h) (r k)) (fun h q k=>.io (k _ (List.mem_singleton.mpr rfl) _ h) (q.mono c)) (fun _=>.nil) (fun _ _ n h r k=>.cons (h fun p hp=>k p (List.mem_append_left _ hp)) (r fun p hp=>k p (List.mem_append_right _ hp)) n) (fun _=>.nil) (fun _ _ n h r k=>.cons (h fun p hp=>k p (List.mem_append_left _ hp)) (r fun p hp=>k p (List.mem_append_right _ hp)) n) h
theorem DenOs.mono (c:Same C C') {t:Ty} {v:List V} {d:List PyData} {as:List Addr} (h:DenOs K H C t v d as):(∀ p ∈ as,∀ o,H p = some o → H' p = some o) → DenOs K H' C' t v d as:=
  DenOs.rec (motive_1:=fun t v d as _=>(∀ p ∈ as,∀ o,H p = some o → H' p = some o) → DenO K H' C' t v d as) (motive_2:=fun t v d as _=>(∀ p ∈ as,∀ o,H p = some o → H' p = some o) → DenOs K H' C' t v d as) (motive_3:=fun t v d as _=>(∀ p ∈ as,∀ o,H p = some o → H' p = some o) → DenOp K H' C' t v d as) (fun h _=>.cl (h.mono c)) (fun _=>.non) (fun h _ n r k=>.lst (k _ List.mem_cons_self _ h) (r fun p hp=>k p (List.mem_cons_of_mem _ hp)) n) (fun h _ r k=>.tup (c.tup h) (r k)) (fun h q k=>.io (k _ (List.mem_singleton.mpr rfl) _ h) (q.mono c)) (fun _=>.nil) (fun _ _ n h r k=>.cons (h fun p hp=>k p (List.mem_append_left _ hp)) (r fun p hp=>k p (List.mem_append_right _ hp)) n) (fun _=>.nil) (fun _ _ n h r k=>.cons (h fun p hp=>k p (List.mem_append_left _ hp)) (r fun p hp=>k p (List.mem_append_right _ hp)) n) h
theorem DenOp.mono (c:Same C C') {t:List Ty} {v:List V} {d:List PyData} {as:List Addr} (h:DenOp K H C t v d as):(∀ p ∈ as,∀ o,H p = some o → H' p = some o) → DenOp K H' C' t v d as:=
  DenOp.rec (motive_1:=fun t v d as _=>(∀ p ∈ as,∀ o,H p = some o → H' p = some o) → DenO K H' C' t v d as) (motive_2:=fun t v d as _=>(∀ p ∈ as,∀ o,H p = some o → H' p = some o) → DenOs K H' C' t v d as) (motive_3:=fun t v d as _=>(∀ p ∈ as,∀ o,H p = some o → H' p = some o) → DenOp K H' C' t v d as) (fun h _=>.cl (h.mono c)) (fun _=>.non) (fun h _ n r k=>.lst (k _ List.mem_cons_self _ h) (r fun p hp=>k p (List.mem_cons_of_mem _ hp)) n) (fun h _ r k=>.tup (c.tup h) (r k)) (fun h q k=>.io (k _ (List.mem_singleton.mpr rfl) _ h) (q.mono c)) (fun _=>.nil) (fun _ _ n h r k=>.cons (h fun p hp=>k p (List.mem_append_left _ hp)) (r fun p hp=>k p (List.mem_append_right _ hp)) n) (fun _=>.nil) (fun _ _ n h r k=>.cons (h fun p hp=>k p (List.mem_append_left _ hp)) (r fun p hp=>k p (List.mem_append_right _ hp)) n) h
theorem DenO.raw (c:Same C G) {t:Ty} {v:V} {d:PyData} {as:List Addr} (h:DenO K H C t v d as):(∀ p ∈ as,∀ o,H p = some o → G p = some o) → Den K G v d:=
  DenO.rec (motive_1:=fun t v d as _=>(∀ p ∈ as,∀ o,H p = some o → G p = some o) → Den K G v d) (motive_2:=fun t v d as _=>(∀ p ∈ as,∀ o,H p = some o → G p = some o) → DenL K G v d) (motive_3:=fun t v d as _=>(∀ p ∈ as,∀ o,H p = some o → G p = some o) → DenL K G v d) (fun h _=>h.mono c) (fun _=>.non) (fun h _ n r k=>.lst (SqL.of (k _ List.mem_cons_self _ h)) (r fun p hp=>k p (List.mem_cons_of_mem _ hp))) (fun h _ r k=>.tup (c.tup h) (r k)) (fun h q k=>.lst (SqL.of (k _ (List.mem_singleton.mpr rfl) _ h)) (q.mono c)) (fun _=>.nil) (fun _ _ n h r k=>.cons (h fun p hp=>k p (List.mem_append_left _ hp)) (r fun p hp=>k p (List.mem_append_right _ hp))) (fun _=>.nil) (fun _ _ n h r k=>.cons (h fun p hp=>k p (List.mem_append_left _ hp)) (r fun p hp=>k p (List.mem_append_right _ hp))) h
theorem DenO.lists {t:Ty} {v:V} {d:PyData} {as:List Addr} (h:DenO K H C t v d as):∀ p ∈ as,∃ vs,H p = some (.lst vs):=
  DenO.rec (motive_1:=fun t v d as _=>∀ p ∈ as,∃ vs,H p = some (.lst vs)) (motive_2:=fun t v d as _=>∀ p ∈ as,∃ vs,H p = some (.lst vs)) (motive_3:=fun t v d as _=>∀ p ∈ as,∃ vs,H p = some (.lst vs)) (fun _ p hp=>absurd hp List.not_mem_nil) (fun p hp=>absurd hp List.not_mem_nil) (fun h _ n r p hp=>(List.mem_cons.mp hp).elim (fun z=>⟨_,z ▸ h⟩) (r p)) (fun _ _ r p hp=>r p hp) (fun h _ p hp=>⟨_,(List.mem_singleton.mp hp) ▸ h⟩) (fun p hp=>absurd hp List.not_mem_nil) (fun _ _ n h r p hp=>(List.mem_append.mp hp).elim (h p) (r p)) (fun p hp=>absurd hp List.not_mem_nil) (fun _ _ n h r p hp=>(List.mem_append.mp hp).elim (h p) (r p)) h
theorem DenOs.lists {t:Ty} {v:List V} {d:List PyData} {as:List Addr} (h:DenOs K H C t v d as):∀ p ∈ as,∃ vs,H p = some (.lst vs):=
  DenOs.rec (motive_1:=fun t v d as _=>∀ p ∈ as,∃ vs,H p = some (.lst vs)) (motive_2:=fun t v d as _=>∀ p ∈ as,∃ vs,H p = some (.lst vs)) (motive_3:=fun t v d as _=>∀ p ∈ as,∃ vs,H p = some (.lst vs)) (fun _ p hp=>absurd hp List.not_mem_nil) (fun p hp=>absurd hp List.not_mem_nil) (fun h _ n r p hp=>(List.mem_cons.mp hp).elim (fun z=>⟨_,z ▸ h⟩) (r p)) (fun _ _ r p hp=>r p hp) (fun h _ p hp=>⟨_,(List.mem_singleton.mp hp) ▸ h⟩) (fun p hp=>absurd hp List.not_mem_nil) (fun _ _ n h r p hp=>(List.mem_append.mp hp).elim (h p) (r p)) (fun p hp=>absurd hp List.not_mem_nil) (fun _ _ n h r p hp=>(List.mem_append.mp hp).elim (h p) (r p)) h
theorem DenL.os {vs:List V} {ds:List PyData} (h:DenL K C vs ds):DenOs K H C .cl vs ds []:=
  DenL.ind (M:=fun vs ds=>DenOs K H C .cl vs ds []) .nil (fun h _ ih=>.cons (as:=[]) (.cl h) ih (fun p hp=>absurd hp List.not_mem_nil)) h
theorem DenOs.ind {t:Ty} {P:List V → List PyData → List Addr → Prop} (h0:P [] [] []) (h1:∀ {v:V} {d:PyData} {vs:List V} {ds:List PyData} {as bs:List Addr},DenO K H C t v d as → DenOs K H C t vs ds bs → (∀ p ∈ as,p ∉ bs) → P vs ds bs → P (v :: vs) (d :: ds) (as ++ bs)) {vs:List V} {ds:List PyData} {as:List Addr} (h:DenOs K H C t vs ds as):P vs ds as:=
  DenOs.rec (motive_1:=fun _ _ _ _ _=>True) (motive_2:=fun t' vs ds as _=>t' = t → P vs ds as) (motive_3:=fun _ _ _ _ _=>True) (fun _=>trivial) trivial (fun _ _ _ _=>trivial) (fun _ _ _=>trivial) (fun _ _=>trivial) (fun _=>h0) (fun hx r n _ ih e=>by subst e; exact h1 hx r n (ih rfl)) trivial (fun _ _ _ _ _=>trivial) h rfl
theorem DenOp.ind {P:List Ty → List V → List PyData → List Addr → Prop} (h0:P [] [] [] []) (h1:∀ {t:Ty} {ts:List Ty} {v:V} {d:PyData} {vs:List V} {ds:List PyData} {as bs:List Addr},DenO K H C t v d as → DenOp K H C ts vs ds bs → (∀ p ∈ as,p ∉ bs) → P ts vs ds bs → P (t :: ts) (v :: vs) (d :: ds) (as ++ bs)) {ts:List Ty} {vs:List V} {ds:List PyData} {as:List Addr} (h:DenOp K H C ts vs ds as):P ts vs ds as:=
  DenOp.rec (motive_1:=fun _ _ _ _ _=>True) (motive_2:=fun _ _ _ _ _=>True) (motive_3:=fun ts vs ds as _=>P ts vs ds as) (fun _=>trivial) trivial (fun _ _ _ _=>trivial) (fun _ _ _=>trivial) (fun _ _=>trivial) trivial (fun _ _ _ _ _=>trivial) h0 (fun h r n _ ih=>h1 h r n ih) h
theorem DenOs.dl {vs:List V} {ds:List PyData} {as:List Addr} (h:DenOs K H C .cl vs ds as):DenL K C vs ds ∧ as = []:=
  DenOs.rec (motive_1:=fun t v d as _=>t = .cl → Den K C v d ∧ as = []) (motive_2:=fun t vs ds as _=>t = .cl → DenL K C vs ds ∧ as = []) (motive_3:=fun _ _ _ _ _=>True) (fun h _=>⟨h,rfl⟩) (fun _=>⟨.non,rfl⟩) (fun _ _ _ _ e=>Ty.noConfusion e) (fun _ _ _ e=>Ty.noConfusion e) (fun _ _ e=>Ty.noConfusion e) (fun _=>⟨.nil,rfl⟩) (fun _ _ n h r e=>⟨.cons (h e).1 (r e).1,by rw [(h e).2,(r e).2]; rfl⟩) trivial (fun _ _ _ _ _=>trivial) h rfl
theorem DenO.den {v:V} {d:PyData} {as:List Addr} (h:DenO K H C .cl v d as):Den K C v d:=by
  cases h with
  | cl h=>exact h
  | non=>exact .non
theorem DenOs.length {t:Ty} {vs:List V} {ds:List PyData} {as:List Addr} (h:DenOs K H C t vs ds as):vs.length = ds.length:=
  DenOs.rec (motive_1:=fun _ _ _ _ _=>True) (motive_2:=fun _ vs ds _ _=>vs.length = ds.length) (motive_3:=fun _ _ _ _ _=>True) (fun _=>trivial) trivial (fun _ _ _ _=>trivial) (fun _ _ _=>trivial) (fun _ _=>trivial) rfl (fun _ _ _ _ r=>congrArg (· + 1) r) trivial (fun _ _ _ _ _=>trivial) h
theorem DenOp.length {ts:List Ty} {vs:List V} {ds:List PyData} {as:List Addr} (h:DenOp K H C ts vs ds as):vs.length = ds.length:=
  DenOp.rec (motive_1:=fun _ _ _ _ _=>True) (motive_2:=fun _ _ _ _ _=>True) (motive_3:=fun _ vs ds _ _=>vs.length = ds.length) (fun _=>trivial) trivial (fun _ _ _ _=>trivial) (fun _ _ _=>trivial) (fun _ _=>trivial) trivial (fun _ _ _ _ _=>trivial) rfl (fun _ _ _ _ r=>congrArg (· + 1) r) h
theorem DenOs.item {t:Ty} {vs:List V} {ds:List PyData} {as:List Addr} (h:DenOs K H C t vs ds as):∀ {j:Nat} {d:PyData},ds[j]? = some d →
    ∃ v bs,vs[j]? = some v ∧ DenO K H C t v d bs ∧ (∀ p ∈ bs,p ∈ as) ∧ ∀ (H' C':Hp) (e:PyData),Same C C' → DenO K H' C' t v e bs → (∀ p ∈ as,p ∉ bs → ∀ o,H p = some o → H' p = some o) → DenOs K H' C' t vs (ds.set j e) as:=
  DenOs.ind (P:=fun vs ds as=>∀ {j:Nat} {d:PyData},ds[j]? = some d → ∃ v bs,vs[j]? = some v ∧ DenO K H C t v d bs ∧ (∀ p ∈ bs,p ∈ as) ∧ ∀ (H' C':Hp) (e:PyData),Same C C' → DenO K H' C' t v e bs → (∀ p ∈ as,p ∉ bs → ∀ o,H p = some o → H' p = some o) → DenOs K H' C' t vs (ds.set j e) as)
    (fun e=>L2.no_ns e) (fun {v d0 vs ds as bs} h r n ih {j d} e=>by
      cases j with
      | zero=>
        obtain rfl:=Option.some.inj e
        exact L2.i_EEAAA (v) (as) (rfl) (h) (fun p hp=>List.mem_append_left _ hp) (fun H' C' e c h' k=>.cons h' (r.mono c fun p hp o q=>k p (List.mem_append_right _ hp) (fun z=>n p z hp) o q) n)
      | succ j=>
        refine L2.o_EEAAA (ih (j:=j) (d:=d) e) fun w cs h1 h2 h3 h4=>?_
        exact L2.i_EEAAA (w) (cs) (h1) (h2) (fun p hp=>List.mem_append_right _ (h3 p hp)) (fun H' C' e c h' k=>.cons (h.mono c fun p hp o q=>k p (List.mem_append_left _ hp) (fun z=>n p hp (h3 p z)) o q) (h4 H' C' e c h' fun p hp hn o q=>k p (List.mem_append_right _ hp) hn o q) n)) h
theorem DenOp.item {ts:List Ty} {vs:List V} {ds:List PyData} {as:List Addr} (h:DenOp K H C ts vs ds as):∀ {j:Nat} {d:PyData},ds[j]? = some d →
    ∃ t v bs,ts[j]? = some t ∧ vs[j]? = some v ∧ DenO K H C t v d bs ∧ (∀ p ∈ bs,p ∈ as) ∧ ∀ (H' C':Hp) (e:PyData),Same C C' → DenO K H' C' t v e bs → (∀ p ∈ as,p ∉ bs → ∀ o,H p = some o → H' p = some o) → DenOp K H' C' ts vs (ds.set j e) as:=
  DenOp.ind (P:=fun ts vs ds as=>∀ {j:Nat} {d:PyData},ds[j]? = some d → ∃ t v bs,ts[j]? = some t ∧ vs[j]? = some v ∧ DenO K H C t v d bs ∧ (∀ p ∈ bs,p ∈ as) ∧ ∀ (H' C':Hp) (e:PyData),Same C C' → DenO K H' C' t v e bs → (∀ p ∈ as,p ∉ bs → ∀ o,H p = some o → H' p = some o) → DenOp K H' C' ts vs (ds.set j e) as)
    (fun e=>L2.no_ns e) (fun {t ts v d0 vs ds as bs} h r n ih {j d} e=>by
      cases j with
      | zero=>
        obtain rfl:=Option.some.inj e
        exact L2.i_EEEAAAA (t) (v) (as) (rfl) (rfl) (h) (fun p hp=>List.mem_append_left _ hp) (fun H' C' e c h' k=>.cons h' (r.mono c fun p hp o q=>k p (List.mem_append_right _ hp) (fun z=>n p z hp) o q) n)
      | succ j=>
        refine L2.o_EEEAAAA (ih (j:=j) (d:=d) e) fun t' w cs h0 h1 h2 h3 h4=>?_
        exact L2.i_EEEAAAA (t') (w) (cs) (h0) (h1) (h2) (fun p hp=>List.mem_append_right _ (h3 p hp)) (fun H' C' e c h' k=>.cons (h.mono c fun p hp o q=>k p (List.mem_append_left _ hp) (fun z=>n p hp (h3 p z)) o q) (h4 H' C' e c h' fun p hp hn o q=>k p (List.mem_append_right _ hp) hn o q) n)) h
noncomputable def isL:PyData → Option (List PyData)
  | .list ds=>some ds
  | _=>none
noncomputable def isTu:PyData → Option (List PyData)
  | .tuple ds=>some ds
  | _=>none
noncomputable def itsD:PyData → List PyData
  | .list ds=>ds
  | .tuple ds=>ds
  | _=>[]
noncomputable def kidD (ds:List PyData) (k:Int):Option PyData:=(ixN ds.length k).bind fun j=>ds[j]?
noncomputable def getP:PyData → List Int → Option (List PyData)
  | d,[]=>isL d
  | d,k :: r=>(kidD (itsD d) k).bind fun e=>getP e r
noncomputable def chgL (ds:List PyData) (k:Int) (f:PyData → PyData):List PyData:=(ixN ds.length k).elim ds fun j=>ds.set j (f (ds.getD j .none))
noncomputable def chgD (d:PyData) (k:Int) (f:PyData → PyData):PyData:=match d with
  | .list ds=>.list (chgL ds k f)
  | .tuple ds=>.tuple (chgL ds k f)
  | d=>d
noncomputable def setL (d:PyData) (es:List PyData):PyData:=match d with
  | .list _=>.list es
  | d=>d
noncomputable def setP:PyData → List Int → List PyData → PyData
  | d,[],es=>setL d es
  | d,k :: r,es=>chgD d k fun e=>setP e r es
noncomputable def Ty.isCl:Ty → Bool
  | .cl=>true
  | _=>false
noncomputable def Ty.leaf:Ty → Bool
  | .lst t=>t.isCl
  | .io _=>true
  | _=>false
noncomputable def tyK (T:Ty) (d:PyData) (k:Int):Option (Ty × PyData):=match T with
  | .lst t=>(isL d).bind fun ds=>(kidD ds k).map fun e=>(t,e)
  | .tup ts=>(isTu d).bind fun ds=>(ixN ds.length k).bind fun j=>(ds[j]?).map fun e=>(ts.getD j .cl,e)
  | _=>none
noncomputable def tyP:Ty → PyData → List Int → Bool
  | T,d,[]=>T.leaf && (isL d).isSome
  | T,d,k :: r=>(tyK T d k).any fun q=>tyP q.1 q.2 r
theorem kid_some {ds:List PyData} {k:Int} {β:Type} {g:PyData → Option β} {r:β} (h:(kidD ds k).bind g = some r):∃ j d,ixN ds.length k = some j ∧ ds[j]? = some d ∧ g d = some r:=by
  unfold kidD at h
  cases hj:ixN ds.length k with
  | none=>rw [hj] at h; exact L2.no_ns h
  | some j=>
    rw [hj,Option.bind_some] at h
    cases hd:ds[j]? with
    | none=>rw [hd] at h; exact L2.no_ns h
    | some d=>rw [hd] at h; exact ⟨j,d,rfl,hd,h⟩
theorem kid_is {ds:List PyData} {k:Int} {j:Nat} {d:PyData} (h1:ixN ds.length k = some j) (h2:ds[j]? = some d):kidD ds k = some d:=by
  unfold kidD
  rw [h1,Option.bind_some,h2]
inductive AtP (K:PySem.W.Frag) (H C:Hp):V → List Int → Addr → Prop
  | here {l:Addr}:AtP K H C (.ref l) [] l
  | inL {a:Addr} {vs:List V} {k:Int} {r:List Int} {w:V} {l:Addr}:H a = some (.lst vs) → atI vs k = some w → AtP K H C w r l → AtP K H C (.ref a) (k :: r) l
  | inT {a:Addr} {vs:List V} {k:Int} {r:List Int} {w:V} {l:Addr}:SqT K C a vs → atI vs k = some w → AtP K H C w r l → AtP K H C (.ref a) (k :: r) l
theorem getD_some {ds:List PyData} {j:Nat} {d:PyData} (h:ds[j]? = some d):ds.getD j .none = d:=by
  rw [List.getD_eq_getElem?_getD,h]; rfl
theorem chgL_is {ds:List PyData} {k:Int} {j:Nat} {d:PyData} {f:PyData → PyData} (h1:ixN ds.length k = some j) (h2:ds[j]? = some d):chgL ds k f = ds.set j (f d):=by
  unfold chgL
  rw [h1,Option.elim_some,getD_some h2]
theorem DenO.focus (path:List Int):∀ {T:Ty} {v:V} {d:PyData} {as:List Addr} {ds:List PyData},DenO K H C T v d as → tyP T d path = true → getP d path = some ds →
    ∃ l vs,AtP K H C v path l ∧ H l = some (.lst vs) ∧ DenL K C vs ds ∧ l ∈ as ∧ ∀ (H' C':Hp) (ws:List V) (es:List PyData),Same C C' → H' l = some (.lst ws) → (∀ p ∈ as,p ≠ l → ∀ o,H p = some o → H' p = some o) → DenL K C' ws es → DenO K H' C' T v (setP d path es) as:=by
  induction path with
  | nil=>
    intro T v d as ds h ht hg
    cases h with
    | cl h=>exact L2.no_ft ht
    | non=>exact L2.no_ns hg
    | tup h r=>exact L2.no_ns hg
    | @lst t a vs ds' as h r n=>
      have htc:t = .cl:=by cases t <;> first | rfl | exact L2.no_ft ht
      subst htc
      obtain rfl:=Option.some.inj hg
      refine L2.o_A (r.dl) fun h1 zq1=>?_
      subst zq1
      exact L2.i_EEAAAA (a) (vs) (.here) (h) (h1) (List.mem_cons_self) (fun H' C' ws es c hw k he=>.lst hw he.os n)
    | @io l vs ds' h q=>
      obtain rfl:=Option.some.inj hg
      exact L2.i_EEAAAA (l) (vs) (.here) (h) (q) (List.mem_singleton.mpr rfl) (fun H' C' ws es c hw k he=>.io hw he)
  | cons k r ih=>
    intro T v d as ds h ht hg
    cases h with
    | cl h=>exact L2.no_ft ht
    | io h q=>exact L2.no_ft ht
    | non=>cases T <;> exact L2.no_ft ht
    | @lst t a vs ds' as h q n=>
      refine L2.o_EEAA (kid_some (ds:=ds') hg) fun j d' hj hd hg=>?_
      have ht':tyP t d' r = true:=by
        have e:tyK (.lst t) (.list ds') k = some (t,d'):=congrArg (Option.map fun e=>(t,e)) (kid_is hj hd)
        rw [tyP,e] at ht
        exact ht
      refine L2.o_EEAAA (q.item hd) fun w bs h1 h2 h3 h4=>?_
      refine L2.o_EEAAAA (ih h2 ht' hg) fun l us g1 g2 g3 g4 g5=>?_
      have hat:atI vs k = some w:=by
        unfold atI
        rw [q.length,hj]
        exact h1
      refine L2.i_EEAAAA (l) (us) (.inL h hat g1) (g2) (g3) (List.mem_cons_of_mem _ (h3 l g4)) (fun H' C' ws es c hw kk he=>?_)
      have hal:a ≠ l:=fun z=>n (z ▸ h3 l g4)
      rw [show setP (.list ds') (k :: r) es = .list (ds'.set j (setP d' r es)) from congrArg PyData.list (chgL_is hj hd)]
      exact .lst (kk a List.mem_cons_self hal _ h) (h4 H' C' _ c (g5 H' C' ws es c hw (fun p hp hne o qq=>kk p (List.mem_cons_of_mem _ (h3 p hp)) hne o qq) he) fun p hp hn o qq=>kk p (List.mem_cons_of_mem _ hp) (fun z=>hn (z ▸ g4)) o qq) n
    | @tup ts a vs ds' as h q=>
      refine L2.o_EEAA (kid_some (ds:=ds') hg) fun j d' hj hd hg=>?_
      refine L2.o_EEEAAAA (q.item hd) fun t w bs h0 h1 h2 h3 h4=>?_
      have ht':tyP t d' r = true:=by
        have e:tyK (.tup ts) (.tuple ds') k = some (t,d'):=by
          show ((ixN ds'.length k).bind fun j=>(ds'[j]?).map fun e=>(ts.getD j .cl,e)) = _
          rw [hj,Option.bind_some,hd,List.getD_eq_getElem?_getD,h0]
          rfl
        rw [tyP,e] at ht
        exact ht
      refine L2.o_EEAAAA (ih h2 ht' hg) fun l us g1 g2 g3 g4 g5=>?_
      have hat:atI vs k = some w:=by
        unfold atI
        rw [q.length,hj]
        exact h1
      refine L2.i_EEAAAA (l) (us) (.inT h hat g1) (g2) (g3) (h3 l g4) (fun H' C' ws es c hw kk he=>?_)
      rw [show setP (.tuple ds') (k :: r) es = .tuple (ds'.set j (setP d' r es)) from congrArg PyData.tuple (chgL_is hj hd)]
      exact .tup (c.tup h) (h4 H' C' _ c (g5 H' C' ws es c hw (fun p hp hne o qq=>kk p (h3 p hp) hne o qq) he) fun p hp hn o qq=>kk p hp (fun z=>hn (z ▸ g4)) o qq)
end
structure Ow where
  s:List (Nat × Ty)
  r:Ty:=.cl
noncomputable def OwnA (K:PySem.W.Frag) (O:Ow) (hid:Addr → Prop) (σ:St) (H:Hp) (ρ:Rho) (ow:List Addr) (A:Nat → List Addr):Prop:=
  (∀ i t d,O.s.lookup i = some t → ρ[i]? = some (some d) → ∃ v,σ[i]? = some (some v) ∧ DenO K H (del H (uni hid ow)) t v d (A i)) ∧ (∀ i j p,i ≠ j → p ∈ A i → p ∉ A j) ∧ (∀ i p,p ∈ A i → p ∈ ow)
structure EnvOk (K:PySem.W.Frag) (O:Ow) (hid:Addr → Prop) (H0:Hp) (σ:St) (H:Hp) (ρ:Rho) (ow:List Addr):Prop where
  len:ρ.length = σ.length
  base:Same H0 (del H fun b=>b ∈ ow)
  val:∀ i d,O.s.lookup i = none → ρ[i]? = some (some d) → ∃ v,σ[i]? = some (some v) ∧ Den K (del H (uni hid ow)) v d
  own:∃ A,OwnA K O hid σ H ρ ow A
  isl:∀ l ∈ ow,(∃ vs,H l = some (.lst vs)) ∧ ¬ hid l
  ishL:∀ b,hid b → ∃ vs,H b = some (.lst vs)
  emp:O.s = [] → ow = []
section
variable {K:PySem.W.Frag} {O:Ow} {hid:Addr → Prop} {H0 H H':Hp} {σ:St} {ρ:Rho} {ow:List Addr} {A:Nat → List Addr}
theorem OwnA.mono (a:OwnA K O hid σ H ρ ow A) (h:Same H H'):OwnA K O hid σ H' ρ ow A:=
  ⟨fun i t d hi hd=>let ⟨v,q,r⟩:=a.1 i t d hi hd; ⟨v,q,r.mono (del_mono h _) fun p _ o e=>h p o e⟩,a.2⟩
theorem EnvOk.mono (e:EnvOk K O hid H0 σ H ρ ow) (h:Same H H'):EnvOk K O hid H0 σ H' ρ ow:=
  ⟨e.len,e.base.trans (del_mono h _),fun i d hi hd=>let ⟨v,a,b⟩:=e.val i d hi hd; ⟨v,a,b.mono (del_mono h _)⟩,
    let ⟨A,a⟩:=e.own; ⟨A,a.mono h⟩,fun l hl=>let ⟨⟨vs,q⟩,n⟩:=e.isl l hl; ⟨⟨vs,h _ _ q⟩,n⟩,
    fun b hb=>let ⟨vs,q⟩:=e.ishL b hb; ⟨vs,h _ _ q⟩,e.emp⟩
theorem EnvOk.ish (e:EnvOk K O hid H0 σ H ρ ow):∀ b,hid b → H b ≠ none:=fun b hb z=>by
  refine L2.o_E (e.ishL b hb) fun vs q=>?_
  rw [z] at q; cases q
theorem EnvOk.uniL (e:EnvOk K O hid H0 σ H ρ ow):∀ b,uni hid ow b → ∃ vs,H b = some (.lst vs):=fun b hb=>by
  rcases hb with hb | hb
  · exact e.ishL b hb
  · exact (e.isl b hb).1
theorem EnvOk.fresh (e:EnvOk K O hid H0 σ H ρ ow) {p:Addr} (h:H p = none):¬ uni hid ow p:=by
  rintro (z | z)
  · exact e.ish p z h
  · obtain ⟨⟨vs,q⟩,_⟩:=e.isl p z
    rw [h] at q; cases q
theorem EnvOk.lists (e:EnvOk K O hid H0 σ H ρ ow):∀ l ∈ ow,∃ vs,H l = some (.lst vs):=fun l h=>(e.isl l h).1
theorem EnvOk.ow0 (e:EnvOk K O hid H0 σ H ρ ow) {p:Addr} (h:p ∈ ow):H0 p = none:=by
  cases q:H0 p with
  | none=>rfl
  | some o=>
    have:=e.base p o q
    rw [del_in h] at this
    exact L2.no_ns this
theorem EnvOk.raw (e:EnvOk K O hid H0 σ H ρ ow) {i:Nat} {d:PyData} (h:ρ[i]? = some (some d)):∃ v,σ[i]? = some (some v) ∧ Den K (del H hid) v d:=by
  cases hi:O.s.lookup i with
  | some t=>
    refine L2.o_EAA (e.own) fun A a1 a2 a3=>?_
    refine L2.o_EA (a1 i t d hi h) fun v q r=>?_
    exact ⟨v,q,r.raw (del_uni _ _ _) fun p hp o q=>by rw [del_out (e.isl p (a3 i p hp)).2]; exact q⟩
  | none=>
    refine L2.o_EA (e.val i d hi h) fun v a b=>?_
    exact ⟨v,a,b.mono (del_uni _ _ _)⟩
theorem EnvOk.newAt (e:EnvOk K O hid H0 σ H ρ ow) {p:Addr} {o:HO} (h:H p = none):del (upd H p o) (uni hid ow) p = some o:=by rw [del_out (e.fresh h),upd_same]
theorem EnvOk.newAtR (e:EnvOk K O hid H0 σ H ρ ow) {p:Addr} {o:HO} (h:H p = none):del (upd H p o) hid p = some o:=by rw [del_out fun z=>e.fresh h (.inl z),upd_same]
theorem set_two {ρ:Rho} {i j:Nat} {d:PyData} {x:Option PyData} (q:(ρ.set i (some d))[j]? = some x):(j = i ∧ x = some d ∧ i < ρ.length) ∨ (j ≠ i ∧ ρ[j]? = some x):=by
  by_cases hj:j = i
  · subst hj
    have hl:j < ρ.length:=by have:=(List.getElem?_eq_some_iff.mp q).1; simpa using this
    rw [List.getElem?_set_self hl] at q
    exact .inl ⟨rfl,(Option.some.inj q).symm,hl⟩
  · rw [List.getElem?_set_ne (Ne.symm hj)] at q
    exact .inr ⟨hj,q⟩
theorem EnvOk.set (e:EnvOk K O hid H0 σ H ρ ow) {i:Nat} {v:V} {d:PyData} (hi:O.s.lookup i = none) (h:Den K (del H (uni hid ow)) v d):EnvOk K O hid H0 (σ.set i (some v)) H (ρ.set i (some d)) ow:=by
  refine ⟨by simpa using e.len,e.base,fun j x hj q=>?_,?_,e.isl,e.ishL,e.emp⟩
  · rcases set_two q with ⟨rfl,z,hl⟩ | ⟨hne,z⟩
    · obtain rfl:=Option.some.inj z
      exact ⟨v,List.getElem?_set_self (by rw [← e.len]; exact hl),h⟩
    · refine L2.o_EA (e.val j x hj z) fun w a b=>?_
      exact ⟨w,by rw [List.getElem?_set_ne (Ne.symm hne)]; exact a,b⟩
  · refine L2.o_EAA (e.own) fun A a1 a2 a3=>?_
    refine ⟨A,fun j t x hj q=>?_,a2,a3⟩
    have hne:j ≠ i:=fun z=>by rw [z,hi] at hj; cases hj
    rw [List.getElem?_set_ne (Ne.symm hne)] at q
    refine L2.o_EA (a1 j t x hj q) fun w a b=>?_
    exact ⟨w,by rw [List.getElem?_set_ne (Ne.symm hne)]; exact a,b⟩
theorem EnvOk.setT (e:EnvOk K O hid H0 σ H ρ ow) (s:Same H H') {i:Nat} {t:Ty} {v:V} {d:PyData} {as:List Addr} (hi:O.s.lookup i = some t) (hl:∀ p ∈ as,H p = none) (h:DenO K H' (del H' (uni hid (as ++ ow))) t v d as) :
    EnvOk K O hid H0 (σ.set i (some v)) H' (ρ.set i (some d)) (as ++ ow):=by
  have nl:∀ p ∈ as,¬ uni hid ow p:=fun p hp=>e.fresh (hl p hp)
  have gen:∀ P Q:Addr → Prop,(∀ b,Q b → P b ∨ b ∈ as) → Same (del H P) (del H' Q):=fun P Q hq b u z=>by
    by_cases hb:P b
    · rw [del_in hb] at z; cases z
    · rw [del_out hb] at z
      rw [del_out fun y=>?_]
      · exact s b u z
      · rcases hq b y with y | y
        · exact hb y
        · rw [hl b y] at z; cases z
  have sub:Same (del H (uni hid ow)) (del H' (uni hid (as ++ ow))):=gen _ _ fun b z=>by
    rcases z with z | z
    · exact .inl (.inl z)
    · rcases List.mem_append.mp z with z | z
      · exact .inr z
      · exact .inl (.inr z)
  have subO:Same (del H fun b=>b ∈ ow) (del H' fun b=>b ∈ as ++ ow):=gen _ _ fun b z=>by
    rcases List.mem_append.mp z with z | z
    · exact .inr z
    · exact .inl z
  refine ⟨by simpa using e.len,e.base.trans subO,fun j x hj q=>?_,?_,fun l2 h2=>?_,fun b hb=>let ⟨vs,q⟩:=e.ishL b hb; ⟨vs,s _ _ q⟩,fun z=>by rw [z] at hi; cases hi⟩
  · have hne:j ≠ i:=fun z=>by rw [z,hi] at hj; cases hj
    rw [List.getElem?_set_ne (Ne.symm hne)] at q
    refine L2.o_EA (e.val j x hj q) fun w a b=>?_
    exact ⟨w,by rw [List.getElem?_set_ne (Ne.symm hne)]; exact a,b.mono sub⟩
  · refine L2.o_EAA (e.own) fun A a1 a2 a3=>?_
    refine ⟨fun j=>if j = i then as else A j,fun j t' x hj q=>?_,fun j k p hjk hp hk=>?_,fun j p hp=>?_⟩
    · rcases set_two q with ⟨rfl,z,hz⟩ | ⟨hne,z⟩
      · obtain rfl:=Option.some.inj z
        rw [hi] at hj
        obtain rfl:=Option.some.inj hj
        exact ⟨v,List.getElem?_set_self (by rw [← e.len]; exact hz),by dsimp only; rw [if_pos rfl]; exact h⟩
      · refine L2.o_EA (a1 j t' x hj z) fun w a b=>?_
        refine ⟨w,by rw [List.getElem?_set_ne (Ne.symm hne)]; exact a,?_⟩
        dsimp only
        rw [if_neg hne]
        exact b.mono sub fun p _ o q=>s p o q
    · dsimp only at hp hk
      split at hp
      · split at hk
        · subst_vars; exact hjk rfl
        · exact nl p hp (.inr (a3 k p hk))
      · split at hk
        · exact nl p hk (.inr (a3 j p hp))
        · exact a2 j k p hjk hp hk
    · dsimp only at hp
      split at hp
      · exact List.mem_append_left _ hp
      · exact List.mem_append_right _ (a3 j p hp)
  · rcases List.mem_append.mp h2 with h2 | h2
    · exact ⟨h.lists l2 h2,fun z=>nl l2 h2 (.inl z)⟩
    · obtain ⟨⟨ws,q⟩,n⟩:=e.isl l2 h2
      exact ⟨⟨ws,s _ _ q⟩,n⟩
theorem EnvOk.at0 (e:EnvOk K O hid H0 σ H ρ ow) {i:Nat} {ds:List PyData} (hi:O.s.lookup i = some (.lst .cl)) (hρ:ρ[i]? = some (some (.list ds))) :
    ∃ l vs,σ[i]? = some (some (.ref l)) ∧ H l = some (.lst vs) ∧ DenL K (del H (uni hid ow)) vs ds ∧ l ∈ ow ∧
      ∀ H',Same H H' → ∀ ws es,DenL K (del H' (uni hid ow)) ws es → EnvOk K O hid H0 σ (upd H' l (.lst ws)) (ρ.set i (some (.list es))) ow:=by
  refine L2.o_EAA (e.own) fun A a1 a2 a3=>?_
  refine L2.o_EA (a1 i _ _ hi hρ) fun v hv D=>?_
  generalize hA:A i = Ai at D
  cases D with
  | @lst _ l vs _ as q r n=>
    refine L2.o_A (r.dl) fun dl zq1=>?_
    subst zq1
    have hA':l ∈ A i:=by rw [hA]; exact List.mem_singleton.mpr rfl
    have hl:=a3 i l hA'
    refine L2.i_EEAAAA (l) (vs) (hv) (q) (dl) (hl) (fun H' s ws es he=>?_)
    have e':=e.mono s
    have ed:del (upd H' l (.lst ws)) (uni hid ow) = del H' (uni hid ow):=del_upd (uni_in hl)
    have eo:del (upd H' l (.lst ws)) (fun b=>b ∈ ow) = del H' (fun b=>b ∈ ow):=del_upd hl
    refine ⟨by simpa using e.len,by rw [eo]; exact e'.base,fun j x hj q=>?_,⟨A,fun j t' x hj q=>?_,a2,a3⟩,fun l2 h2=>?_,fun b hb=>?_,e.emp⟩
    · have hne:j ≠ i:=fun z=>by rw [z,hi] at hj; cases hj
      rw [List.getElem?_set_ne (Ne.symm hne)] at q
      rw [ed]
      exact e'.val j x hj q
    · rw [ed]
      rcases set_two q with ⟨rfl,z,hz⟩ | ⟨hne,z⟩
      · obtain rfl:=Option.some.inj z
        rw [hi] at hj
        obtain rfl:=Option.some.inj hj
        refine ⟨.ref l,hv,?_⟩
        rw [hA]
        exact .lst upd_same he.os (by simp)
      · refine L2.o_EA (a1 j t' x hj z) fun w a b=>?_
        exact ⟨w,a,b.mono (del_mono s _) fun p hp o q=>by rw [upd_ne (show p ≠ l from fun y=>a2 j i p hne hp (by rw [y]; exact hA'))]; exact s _ _ q⟩
    · obtain ⟨⟨vs2,q⟩,n⟩:=e'.isl l2 h2
      refine ⟨?_,n⟩
      by_cases hne:l2 = l
      · subst hne; exact ⟨ws,upd_same⟩
      · exact ⟨vs2,by rw [upd_ne hne]; exact q⟩
    · have hne:b ≠ l:=fun z2=>(e.isl l hl).2 (z2 ▸ hb)
      rw [upd_ne hne]
      exact e'.ishL b hb
theorem getP_nil {d:PyData} {ds:List PyData} (h:getP d [] = some ds):d = .list ds:=by
  cases d <;> first | (cases h; rfl) | cases h
theorem EnvOk.at (e:EnvOk K O hid H0 σ H ρ ow) {i:Nat} {t:Ty} {d:PyData} {path:List Int} {ds:List PyData} (hi:O.s.lookup i = some t) (hρ:ρ[i]? = some (some d)) (ht:tyP t d path = true) (hg:getP d path = some ds) :
    ∃ v l vs,σ[i]? = some (some v) ∧ AtP K H (del H (uni hid ow)) v path l ∧ H l = some (.lst vs) ∧ DenL K (del H (uni hid ow)) vs ds ∧ l ∈ ow ∧
      ∀ H',Same H H' → ∀ ws es,DenL K (del H' (uni hid ow)) ws es → EnvOk K O hid H0 σ (upd H' l (.lst ws)) (ρ.set i (some (setP d path es))) ow:=by
  refine L2.o_EAA (e.own) fun A a1 a2 a3=>?_
  refine L2.o_EA (a1 i t d hi hρ) fun v hv D=>?_
  refine L2.o_EEAAAA (D.focus path ht hg) fun l vs g1 g2 g3 g4 g5=>?_
  have hl:=a3 i l g4
  refine L2.i_EEEAAAAA (v) (l) (vs) (hv) (g1) (g2) (g3) (hl) (fun H' s ws es he=>?_)
  have e':=e.mono s
  have ed:del (upd H' l (.lst ws)) (uni hid ow) = del H' (uni hid ow):=del_upd (uni_in hl)
  have eo:del (upd H' l (.lst ws)) (fun b=>b ∈ ow) = del H' (fun b=>b ∈ ow):=del_upd hl
  have hil:i < ρ.length:=(List.getElem?_eq_some_iff.mp hρ).1
  refine ⟨by simpa using e.len,by rw [eo]; exact e'.base,fun j x hj q=>?_,⟨A,fun j t' x hj q=>?_,a2,a3⟩,fun l2 h2=>?_,fun b hb=>?_,e.emp⟩
  · have hne:j ≠ i:=fun z=>by rw [z,hi] at hj; cases hj
    rw [List.getElem?_set_ne (Ne.symm hne)] at q
    rw [ed]
    exact e'.val j x hj q
  · rw [ed]
    rcases set_two q with ⟨rfl,z,hz⟩ | ⟨hne,z⟩
    · obtain rfl:=Option.some.inj z
      rw [hi] at hj
      obtain rfl:=Option.some.inj hj
      exact ⟨v,hv,g5 _ _ ws es (del_mono s _) upd_same (fun p _ hne o q=>by rw [upd_ne hne]; exact s _ _ q) he⟩
    · refine L2.o_EA (a1 j t' x hj z) fun w a b=>?_
      exact ⟨w,a,b.mono (del_mono s _) fun p hp o q=>by rw [upd_ne (show p ≠ l from fun y=>a2 j i p hne hp (by rw [y]; exact g4))]; exact s _ _ q⟩
  · obtain ⟨⟨vs2,q⟩,n⟩:=e'.isl l2 h2
    refine ⟨?_,n⟩
    by_cases hne:l2 = l
    · subst hne; exact ⟨ws,upd_same⟩
    · exact ⟨vs2,by rw [upd_ne hne]; exact q⟩
  · have hne:b ≠ l:=fun z2=>(e.isl l hl).2 (z2 ▸ hb)
    rw [upd_ne hne]
    exact e'.ishL b hb
end
end L2
namespace L2
open PySem PySem.Spec PyProof.Rows
variable [Reg]
inductive At5 {α:Type} (K:PySem.W.Frag) (O:Ow) (f:Rho → Option α) (σ:St) (H:Hp) (R:(Addr → Prop) → Hp → Rho → List Addr → α → Prop):Prop
  | mk (hid:Addr → Prop) (H0:Hp) (ρ:Rho) (ow:List Addr) (d:α) (E:EnvOk K O hid H0 σ H ρ ow) (hf:f ρ = some d) (k:R hid H0 ρ ow d):At5 K O f σ H R
section
variable (K:PySem.W.Frag) (O:Ow)
noncomputable def tR (f:Rho → Option PyData):TE:=fun σ H Q=>At5 K O f σ H fun hid H0 ρ ow d=>∀ v H',Same H H' → Den K (del H' hid) v d → Q v H'
noncomputable def tV (f:Rho → Option PyData):TE:=fun σ H Q=>At5 K O f σ H fun hid H0 ρ ow d=>∀ v H',Same H H' → Den K (del H' (uni hid ow)) v d → Q v H'
noncomputable def tFr (f:Rho → Option (List PyData)):TE:=fun σ H Q=>At5 K O f σ H fun hid H0 ρ ow ds=>∀ l vs H',Same H H' → H l = none → H' l = some (.lst vs) → DenL K (del H' (uni hid [l])) vs ds → Q (.ref l) H'
noncomputable def tFc (f:Rho → Option (List PyData)):TE:=fun σ H Q=>At5 K O f σ H fun hid H0 ρ ow ds=>∀ l vs H',Same H H' → H l = none → H' l = some (.lst vs) → DenL K (del H' (uni hid (l :: ow))) vs ds → Q (.ref l) H'
noncomputable def tT (f:Rho → Option Bool):TT:=fun σ H Q=>At5 K O f σ H fun hid H0 ρ ow b=>∀ H',Same H H' → Q b H'
noncomputable def tAR (f:Rho → Option (List PyData)):TA:=fun σ H Q=>At5 K O f σ H fun hid H0 ρ ow ds=>∀ vs H',Same H H' → DenL K (del H' hid) vs ds → Q vs H'
noncomputable def tAV (f:Rho → Option (List PyData)):TA:=fun σ H Q=>At5 K O f σ H fun hid H0 ρ ow ds=>∀ vs H',Same H H' → DenL K (del H' (uni hid ow)) vs ds → Q vs H'
end
noncomputable abbrev PR (X:Cx) (O:Ow) (e:Expr) (f:Rho → Option PyData):Prop:=PE X e (tR X.K O f)
noncomputable abbrev PV (X:Cx) (O:Ow) (e:Expr) (f:Rho → Option PyData):Prop:=PE X e (tV X.K O f)
noncomputable abbrev PFr (X:Cx) (O:Ow) (e:Expr) (f:Rho → Option (List PyData)):Prop:=PE X e (tFr X.K O f)
noncomputable abbrev PFc (X:Cx) (O:Ow) (e:Expr) (f:Rho → Option (List PyData)):Prop:=PE X e (tFc X.K O f)
noncomputable abbrev PTv (X:Cx) (O:Ow) (e:Expr) (f:Rho → Option Bool):Prop:=PT X e (tT X.K O f)
noncomputable abbrev PWv (X:Cx) (O:Ow) (e:Expr) (f:Rho → Option Bool):Prop:=PW X e (tT X.K O f)
noncomputable abbrev PAr (X:Cx) (O:Ow) (es:List Expr) (f:Rho → Option (List PyData)):Prop:=PA X es (tAR X.K O f)
noncomputable abbrev PAv (X:Cx) (O:Ow) (es:List Expr) (f:Rho → Option (List PyData)):Prop:=PA X es (tAV X.K O f)
theorem PE.imp {X:Cx} {e:Expr} {t t':TE} (h:PE X e t) (hi:∀ σ H Q,t' σ H Q → t σ H Q):PE X e t':=fun pins s σ H Q I q=>h pins s σ H Q I (hi σ H Q q)
theorem PT.imp {X:Cx} {e:Expr} {t t':TT} (h:PT X e t) (hi:∀ σ H Q,t' σ H Q → t σ H Q):PT X e t':=fun pins s σ H Q I q=>h pins s σ H Q I (hi σ H Q q)
theorem PW.imp {X:Cx} {e:Expr} {t t':TT} (h:PW X e t) (hi:∀ σ H Q,t' σ H Q → t σ H Q):PW X e t':=fun wh pins s σ H Q I q=>h wh pins s σ H Q I (hi σ H Q q)
theorem PA.imp {X:Cx} {es:List Expr} {t t':TA} (h:PA X es t) (hi:∀ σ H Q,t' σ H Q → t σ H Q):PA X es t':=fun pos pins s σ H Q I q=>h pos pins s σ H Q I (hi σ H Q q)
theorem PS.imp {X:Cx} {st:Stmt} {t t':TS} (h:PS X st t) (hi:∀ D σ H,t' D σ H → t D σ H):PS X st t':=fun pins s σ H D I q=>h pins s σ H D I (hi D σ H q)
theorem PSs.imp {X:Cx} {st:List Stmt} {t t':TS} (h:PSs X st t) (hi:∀ D σ H,t' D σ H → t D σ H):PSs X st t':=fun pins s σ H D I q=>h pins s σ H D I (hi D σ H q)
theorem PG.imp {X:Cx} {tg:Expr} {t t':TG} (h:PG X tg t) (hi:∀ v σ H Q,t' v σ H Q → t v σ H Q):PG X tg t':=fun pins s σ H v u Q I r q=>h pins s σ H v u Q I r (hi v σ H Q q)
theorem PGs.imp {X:Cx} {tg:List Expr} {t t':TGs} (h:PGs X tg t) (hi:∀ v σ H Q,t' v σ H Q → t v σ H Q):PGs X tg t':=fun pins s σ H v u Q I r q=>h pins s σ H v u Q I r (hi v σ H Q q)
theorem PI.imp {X:Cx} {tg iter:Expr} {t t':TI} (h:PI X tg iter t) (hi:∀ σ H R,t' σ H R → t σ H R):PI X tg iter t':=fun pins s σ H R I q=>h pins s σ H R I (hi σ H R q)
noncomputable def boolD:PyData → Option Bool
  | .bool b=>some b
  | _=>none
noncomputable def listD:PyData → Option (List PyData)
  | .list ds=>some ds
  | _=>none
noncomputable def tupD:PyData → Option (List PyData)
  | .tuple ds=>some ds
  | _=>none
noncomputable def bind2 (a b:Option PyData) (g:PyData → PyData → Option PyData):Option PyData:=a.bind fun x=>b.bind fun y=>g x y
inductive Bnd2 (a b:Option PyData) (g:PyData → PyData → Option PyData) (r:PyData):Prop
  | mk (x y:PyData) (h1:a = some x) (h2:b = some y) (h3:g x y = some r):Bnd2 a b g r
inductive Bnd {α β:Type} (a:Option α) (g:α → Option β) (r:β):Prop
  | mk (x:α) (h1:a = some x) (h2:g x = some r):Bnd a g r
inductive Mpd {α β:Type} (a:Option α) (g:α → β) (r:β):Prop
  | mk (x:α) (h1:a = some x) (h2:g x = r):Mpd a g r
theorem bind2_some {a b:Option PyData} {g:PyData → PyData → Option PyData} {r:PyData} (h:bind2 a b g = some r):Bnd2 a b g r:=by
  unfold bind2 at h
  cases a with
  | none=>exact L2.no_ns h
  | some x=>
    cases b with
    | none=>exact L2.no_ns h
    | some y=>exact ⟨x,y,rfl,rfl,h⟩
noncomputable def consD (x:Option PyData) (r:Option (List PyData)):Option (List PyData):=x.bind fun d=>r.map (d :: ·)
noncomputable def testD (x:Option PyData):Option Bool:=x.bind boolD
noncomputable def condO {α:Type} (c:Option Bool) (a b:Option α):Option α:=c.bind fun k=>if k = true then a else b
noncomputable def andB (x y:Option Bool):Option Bool:=x.bind fun c=>if c = true then y else some false
noncomputable def orB (x y:Option Bool):Option Bool:=x.bind fun c=>if c = true then some true else y
noncomputable def andV (x y:Option PyData):Option PyData:=(x.bind boolD).bind fun c=>if c = true then y else some (.bool false)
noncomputable def notV (x:Option PyData):Option PyData:=(x.bind boolD).map fun c=>.bool (!c)
theorem bind_some {α β:Type} {a:Option α} {g:α → Option β} {r:β} (h:a.bind g = some r):Bnd a g r:=by
  cases a with
  | none=>exact L2.no_ns h
  | some x=>exact ⟨x,rfl,h⟩
theorem map_some {α β:Type} {a:Option α} {g:α → β} {r:β} (h:a.map g = some r):Mpd a g r:=by
  cases a with
  | none=>exact L2.no_ns h
  | some x=>exact ⟨x,rfl,Option.some.inj h⟩
section
variable {X:Cx} {O:Ow} {e a b c:Expr} {f fa fb fc:Rho → Option PyData} {pos:Pos}
theorem PV.r (h:PV X O e f):PR X O e f:=h.imp fun σ H Q ⟨hid,H0,ρ,ow,d,E,hf,k⟩=>⟨hid,H0,ρ,ow,d,E,hf,fun v H' s D=>k v H' s (D.mono (del_uni _ _ _))⟩
theorem PR.cl0 (h:PR X O e f) (h0:autoParam (O.s = []) L2.ar._auto_1):PV X O e f:=h.imp fun σ H Q ⟨hid,H0,ρ,ow,d,E,hf,k⟩=>⟨hid,H0,ρ,ow,d,E,hf,fun v H' s D=>k v H' s (by rw [E.emp h0,uni_nil]; exact D)⟩
theorem PR.clf (h:PR X O e f):PV X O e (fun ρ=>(f ρ).filter lf):=h.imp fun σ H Q zpat=>by
  obtain ⟨hid,H0,ρ,ow,d,E,hf,k⟩:=zpat
  refine L2.o_A (Option.filter_eq_some_iff.mp hf) fun h1 h2=>?_
  exact ⟨hid,H0,ρ,ow,d,E,h1,fun v H' s D=>k v H' s (D.clean (E.mono s).lists h2)⟩
theorem PFr.r {f:Rho → Option (List PyData)} (h:PFr X O e f):PR X O e (fun ρ=>(f ρ).map .list):=h.imp fun σ H Q zpat=>by
  obtain ⟨hid,H0,ρ,ow,d,E,hf,k⟩:=zpat
  obtain ⟨ds,h1,rfl⟩:=map_some hf
  exact ⟨hid,H0,ρ,ow,ds,E,h1,fun l vs H' s n q D=>k (.ref l) H' s (.lst (SqL.of (by rw [del_out fun z=>E.fresh n (.inl z)]; exact q)) (D.mono (del_uni _ _ _)))⟩
theorem PFc.v {f:Rho → Option (List PyData)} (h:PFc X O e f):PV X O e (fun ρ=>(f ρ).map .list):=h.imp fun σ H Q zpat=>by
  obtain ⟨hid,H0,ρ,ow,d,E,hf,k⟩:=zpat
  obtain ⟨ds,h1,rfl⟩:=map_some hf
  refine ⟨hid,H0,ρ,ow,ds,E,h1,fun l vs H' s n q D=>k (.ref l) H' s (.lst (SqL.of ?_) (D.mono (del_sub fun b z=>by rcases z with z | z; exact .inl z; exact .inr (List.mem_cons_of_mem _ z))))⟩
  rw [del_out (E.fresh n)]
  exact q
theorem PFr.cf {f:Rho → Option (List PyData)} (h:PFr X O e f):PFc X O e (fun ρ=>(f ρ).filter lf.go):=h.imp fun σ H Q zpat=>by
  obtain ⟨hid,H0,ρ,ow,d,E,hf,k⟩:=zpat
  refine L2.o_A (Option.filter_eq_some_iff.mp hf) fun h1 h2=>?_
  refine ⟨hid,H0,ρ,ow,d,E,h1,fun l vs H' s n q D=>k l vs H' s n q ((D.mono (del_uni _ _ _)).clean (fun l2 h2=>?_) h2)⟩
  rcases List.mem_cons.mp h2 with rfl | h2
  · exact ⟨vs,q⟩
  · exact (E.mono s).lists l2 h2
theorem PFr.cz {f:Rho → Option (List PyData)} (h:PFr X O e f) (h0:autoParam (O.s = []) L2.ar._auto_1):PFc X O e f:=h.imp fun σ H Q ⟨hid,H0,ρ,ow,d,E,hf,k⟩=>⟨hid,H0,ρ,ow,d,E,hf,fun l vs H' s n q D=>k l vs H' s n q (by rw [E.emp h0]; exact D)⟩
theorem join_some {ρ:Rho} {i:Nat} {d:PyData} (h:(ρ[i]?).join = some d):ρ[i]? = some (some d):=by
  cases q:ρ[i]? with
  | none=>rw [q] at h; cases h
  | some x=>rw [q] at h; exact congrArg some h
theorem pr_name {i:Nat} (h:PE X e (tVar i)):PR X O e (fun ρ=>(ρ[i]?).join):=h.imp fun σ H Q zpat=>by
  obtain ⟨hid,H0,ρ,ow,d,E,hf,k⟩:=zpat
  refine L2.o_EA (E.raw (join_some hf)) fun v h1 h2=>?_
  exact ⟨v,h1,k v H (Same.refl H) h2⟩
theorem pv_name {i:Nat} (h:PE X e (tVar i)) (hi:autoParam (O.s.lookup i = none) L2.ar._auto_1):PV X O e (fun ρ=>(ρ[i]?).join):=h.imp fun σ H Q zpat=>by
  obtain ⟨hid,H0,ρ,ow,d,E,hf,k⟩:=zpat
  refine L2.o_EA (E.val i d hi (join_some hf)) fun v h1 h2=>?_
  exact ⟨v,h1,k v H (Same.refl H) h2⟩
theorem pv_c {v:V} {d:PyData} (h:PE X e (tC v)) (s:Sc v d):PV X O e (fun _=>some d):=h.imp fun σ H Q zpat=>by
  obtain ⟨hid,H0,ρ,ow,d',E,hf,k⟩:=zpat
  obtain rfl:=Option.some.inj hf
  exact k v H (Same.refl H) s.den
theorem pv_int {i:Int} {j:Nat}:PV X O (.Constant (.int i) j pos) (fun _=>some (.int i)):=pv_c pe_int (.int i)
theorem pv_bl {i:Bool} {j:Nat}:PV X O (.Constant (.bool i) j pos) (fun _=>some (.bool i)):=pv_c pe_bl (.bl i)
theorem pv_non {j:Nat}:PV X O (.Constant .none j pos) (fun _=>some .none):=pv_c pe_non .non
noncomputable def SpecOp (K:PySem.W.Frag) (rd:R2) (g:PyData → PyData → Option PyData):Prop:=∀ x y H d e r Q,Den K H x d → Den K H y e → g d e = some r → (∀ v,Sc v r → Q v H) → rd x y H Q
noncomputable def SpecOpR (K:PySem.W.Frag) (rd:R2) (g:PyData → PyData → Option PyData):Prop:=∀ x y H G d e r Q,Same G H → Den K G x d → Den K G y e → g d e = some r → (∀ v,Den K G v r → Q v H) → rd x y H Q
theorem tOp_imp {K:PySem.W.Frag} {rd:R2} {g:PyData → PyData → Option PyData} (hg:SpecOp K rd g):∀ σ H Q,tV K O (fun ρ=>bind2 (fa ρ) (fb ρ) g) σ H Q → tOp rd (tR K O fa) (tR K O fb) σ H Q:=fun σ H Q zpat=>by
  obtain ⟨hid,H0,ρ,ow,r,E,hf,k⟩:=zpat
  obtain ⟨d,e,h1,h2,h3⟩:=bind2_some hf
  exact ⟨hid,H0,ρ,ow,d,E,h1,fun x H1 s1 D1=>⟨hid,H0,ρ,ow,e,E.mono s1,h2,fun y H2 s2 D2=>hg x y H2 d e r Q ((D1.mono (del_mono s2 _)).mono (del_same _ _)) (D2.mono (del_same _ _)) h3 fun v S=>k v H2 (s1.trans s2) S.den⟩⟩
theorem tOp_impR {K:PySem.W.Frag} {rd:R2} {g:PyData → PyData → Option PyData} (hg:SpecOpR K rd g):∀ σ H Q,tR K O (fun ρ=>bind2 (fa ρ) (fb ρ) g) σ H Q → tOp rd (tR K O fa) (tR K O fb) σ H Q:=fun σ H Q zpat=>by
  obtain ⟨hid,H0,ρ,ow,r,E,hf,k⟩:=zpat
  obtain ⟨d,e,h1,h2,h3⟩:=bind2_some hf
  exact ⟨hid,H0,ρ,ow,d,E,h1,fun x H1 s1 D1=>⟨hid,H0,ρ,ow,e,E.mono s1,h2,fun y H2 s2 D2=>hg x y H2 _ d e r Q (del_same _ hid) (D1.mono (del_mono s2 _)) D2 h3 fun v S=>k v H2 (s1.trans s2) S⟩⟩
noncomputable def intO:PyData → Option Int
  | .int i=>some i
  | _=>none
theorem intO_some {d:PyData} {i:Int} (h:intO d = some i):d = .int i:=by
  cases d with
  | int j=>rw [Option.some.inj h]
  | _=>exact L2.no_ns h
noncomputable def seqD:PyData → Option (List PyData)
  | .list ds=>some ds
  | .tuple ds=>some ds
  | _=>none
theorem seqD_some {d:PyData} {ds:List PyData} (h:seqD d = some ds):d = .list ds ∨ d = .tuple ds:=by
  cases d with
  | list es=>exact .inl (by rw [Option.some.inj h])
  | tuple es=>exact .inr (by rw [Option.some.inj h])
  | _=>exact L2.no_ns h
noncomputable def int2 (h:Int → Int → PyData) (d e:PyData):Option PyData:=(intO d).bind fun i=>(intO e).map fun j=>h i j
noncomputable def int2C (c:Int → Int → Bool) (h:Int → Int → PyData) (d e:PyData):Option PyData:=(intO d).bind fun i=>(intO e).bind fun j=>if c i j = true then some (h i j) else none
theorem int2_some {h:Int → Int → PyData} {d e r:PyData} (q:int2 h d e = some r):∃ i j,d = .int i ∧ e = .int j ∧ r = h i j:=by
  obtain ⟨i,h1,q⟩:=bind_some q
  obtain ⟨j,h2,q⟩:=map_some q
  exact L2.i_EEAA (i) (j) (intO_some h1) (intO_some h2) (q.symm)
theorem int2C_some {c:Int → Int → Bool} {h:Int → Int → PyData} {d e r:PyData} (q:int2C c h d e = some r):∃ i j,d = .int i ∧ e = .int j ∧ c i j = true ∧ r = h i j:=by
  obtain ⟨i,h1,q⟩:=bind_some q
  obtain ⟨j,h2,q⟩:=bind_some q
  by_cases hc:c i j = true
  · rw [if_pos hc] at q
    exact L2.i_EEAAA (i) (j) (intO_some h1) (intO_some h2) (hc) ((Option.some.inj q).symm)
  · rw [if_neg hc] at q; exact L2.no_ns q
noncomputable def one:List PyData → Option PyData
  | [d]=>some d
  | _=>none
theorem one_some {ds:List PyData} {d:PyData} (h:one ds = some d):ds = [d]:=by
  cases ds with
  | nil=>exact L2.no_ns h
  | cons a r=>
    cases r with
    | nil=>rw [Option.some.inj h]
    | cons b r=>exact L2.no_ns h
noncomputable def two:List PyData → Option (PyData × PyData)
  | [d,e]=>some (d,e)
  | _=>none
theorem two_some {ds:List PyData} {p:PyData × PyData} (h:two ds = some p):ds = [p.1,p.2]:=by
  cases ds with
  | nil=>exact L2.no_ns h
  | cons a r=>
    cases r with
    | nil=>exact L2.no_ns h
    | cons b r=>
      cases r with
      | nil=>rw [← Option.some.inj h]
      | cons c r=>exact L2.no_ns h
theorem spI0 {K:PySem.W.Frag} {g:Int → Int → V} {h:Int → Int → PyData} (hs:∀ i j,Sc (g i j) (h i j)):SpecOp K (rI0 g) (int2 h):=fun x y H d e r Q D1 D2 q k=>by
  refine L2.o_EEAA (int2_some q) fun i j zq2 zq3 zq4=>?_
  subst zq2
  subst zq3
  subst zq4
  exact L2.i_EEAA (i) (j) (den_int D1) (den_int D2) (k _ (hs i j))
theorem spI {K:PySem.W.Frag} {C:Int → Int → Prop} {c:Int → Int → Bool} {g:Int → Int → V} {h:Int → Int → PyData} (hs:∀ i j,Sc (g i j) (h i j)) (hc:∀ i j,c i j = true → C i j):SpecOp K (rI C g) (int2C c h):=fun x y H d e r Q D1 D2 q k=>by
  refine L2.o_EEAAA (int2C_some q) fun i j zq2 zq3 hcc zq5=>?_
  subst zq2
  subst zq3
  subst zq5
  exact L2.i_EEAAA (i) (j) (den_int D1) (den_int D2) (hc i j hcc) (k _ (hs i j))
noncomputable def isBig (i:Int):Bool:=decide (i.natAbs < big)
noncomputable def addD:=int2 fun i j=>.int (i + j)
noncomputable def subD:=int2 fun i j=>.int (i - j)
noncomputable def isS (i:Int):Bool:=decide (i.natAbs < 2 ^ 63)
noncomputable def mulD:=int2C (fun i j=>(isBig i && isBig j) || (isS i || isS j)) fun i j=>.int (i * j)
noncomputable def fdivD:=int2C (fun _ j=>decide (j ≠ 0) && isBig j) fun i j=>.int (i.fdiv j)
noncomputable def modD:=int2C (fun _ j=>decide (j ≠ 0)) fun i j=>.int (i.fmod j)
noncomputable def powD:=int2C (fun i j=>decide (0 ≤ j) && decide (j ≤ 1000000) && decide (i.natAbs < 2 ^ 64)) fun i j=>.int (i ^ j.toNat)
noncomputable def ltD:=int2 fun i j=>.bool (decide (i < j))
noncomputable def leD:=int2 fun i j=>.bool (decide (i ≤ j))
noncomputable def gtD:=int2 fun i j=>.bool (decide (j < i))
noncomputable def geD:=int2 fun i j=>.bool (decide (j ≤ i))
noncomputable def eqD (d e:PyData):Option PyData:=if (SeqAt.shaped d && SeqAt.shaped e) = true then some (.bool (PyData.eqv d e)) else none
noncomputable def neD (d e:PyData):Option PyData:=if (SeqAt.shaped d && SeqAt.shaped e) = true then some (.bool (!PyData.eqv d e)) else none
theorem sp_eq {K:PySem.W.Frag}:SpecOp K (rEqD K) eqD:=fun x y H d e r Q D1 D2 q k=>by
  unfold eqD at q
  split at q
  · rename_i h
    rw [Bool.and_eq_true] at h
    obtain rfl:=Option.some.inj q
    exact L2.i_EEAAAA (d) (e) (D1) (D2) (h.1) (h.2) (k _ (.bl _))
  · exact L2.no_ns q
theorem sp_ne {K:PySem.W.Frag}:SpecOp K (rNeD K) neD:=fun x y H d e r Q D1 D2 q k=>by
  unfold neD at q
  split at q
  · rename_i h
    rw [Bool.and_eq_true] at h
    obtain rfl:=Option.some.inj q
    exact L2.i_EEAAAA (d) (e) (D1) (D2) (h.1) (h.2) (k _ (.bl _))
  · exact L2.no_ns q
theorem v_add (ha:PR X O a fa) (hb:PR X O b fb):PV X O (.BinOp a .Add b pos) (fun ρ=>bind2 (fa ρ) (fb ρ) addD):=(pe_op op_add ha hb).imp (tOp_imp (spI0 fun _ _=>.int _))
theorem v_sub (ha:PR X O a fa) (hb:PR X O b fb):PV X O (.BinOp a .Sub b pos) (fun ρ=>bind2 (fa ρ) (fb ρ) subD):=(pe_op op_sub ha hb).imp (tOp_imp (spI0 fun _ _=>.int _))
theorem v_mul (ha:PR X O a fa) (hb:PR X O b fb):PV X O (.BinOp a .Mult b pos) (fun ρ=>bind2 (fa ρ) (fb ρ) mulD):=(pe_op op_mulB ha hb).imp (tOp_imp (spI (fun _ _=>.int _) fun i j h=>by
  rw [Bool.or_eq_true,Bool.or_eq_true,Bool.and_eq_true] at h
  rcases h with h | h | h
  · exact .inl ⟨of_decide_eq_true h.1,of_decide_eq_true h.2⟩
  · have:=of_decide_eq_true h
    exact .inr (.inl (by omega))
  · have:=of_decide_eq_true h
    exact .inr (.inr (by omega))))
theorem v_fdiv (ha:PR X O a fa) (hb:PR X O b fb):PV X O (.BinOp a .FloorDiv b pos) (fun ρ=>bind2 (fa ρ) (fb ρ) fdivD):=(pe_op op_fdivB ha hb).imp (tOp_imp (spI (fun _ _=>.int _) fun i j h=>by
  rw [Bool.and_eq_true] at h; exact ⟨of_decide_eq_true h.1,of_decide_eq_true h.2⟩))
theorem v_mod (ha:PR X O a fa) (hb:PR X O b fb):PV X O (.BinOp a .Mod b pos) (fun ρ=>bind2 (fa ρ) (fb ρ) modD):=(pe_op op_modN ha hb).imp (tOp_imp (spI (fun _ _=>.int _) fun i j h=>of_decide_eq_true h))
theorem v_pow (ha:PR X O a fa) (hb:PR X O b fb):PV X O (.BinOp a .Pow b pos) (fun ρ=>bind2 (fa ρ) (fb ρ) powD):=(pe_op op_pow ha hb).imp (tOp_imp (spI (fun _ _=>.int _) fun i j h=>by
  rw [Bool.and_eq_true,Bool.and_eq_true] at h; exact ⟨of_decide_eq_true h.1.1,of_decide_eq_true h.1.2,of_decide_eq_true h.2⟩))
structure CmpD (X:Cx) (op:CmpOp) (g:PyData → PyData → Option PyData):Prop where
  ex:∃ rd,OpR X (compareOp op) rd ∧ SpecOp X.K rd g
theorem c_lt:CmpD X .Lt ltD:=⟨_,op_lt,spI0 fun _ _=>.bl _⟩
theorem c_le:CmpD X .LtE leD:=⟨_,op_le,spI0 fun _ _=>.bl _⟩
theorem c_gt:CmpD X .Gt gtD:=⟨_,op_gt,spI0 fun _ _=>.bl _⟩
theorem c_ge:CmpD X .GtE geD:=⟨_,op_ge,spI0 fun _ _=>.bl _⟩
theorem c_eq (hu:X.A.units + 64 < cLine):CmpD X .Eq eqD:=⟨_,op_eqD hu,sp_eq⟩
theorem c_ne (hu:X.A.units + 64 < cLine):CmpD X .NotEq neD:=⟨_,op_neD hu,sp_ne⟩
theorem v_cmp {op:CmpOp} {g:PyData → PyData → Option PyData} (C:CmpD X op g) (ha:PR X O a fa) (hb:PR X O b fb) (h1:autoParam (op ≠ .In) L2.ad._auto_1) (h2:autoParam (op ≠ .NotIn) L2.ad._auto_1):PV X O (.Compare a [op] [b] pos) (fun ρ=>bind2 (fa ρ) (fb ρ) g):=by
  refine L2.o_EA (C.ex) fun rd ho hs=>?_
  exact (pe_cmpR ho ha hb (nomark b h1 h2)).imp (tOp_imp hs)
theorem boolD_some {d:PyData} {b:Bool} (h:boolD d = some b):d = .bool b:=by
  unfold boolD at h
  split at h
  · cases h; rfl
  · exact L2.no_ns h
theorem t_cmp {op:CmpOp} {g:PyData → PyData → Option PyData} (C:CmpD X op g) (ha:PR X O a fa) (hb:PR X O b fb) (h1:autoParam (op ≠ .In) L2.ad._auto_1) (h2:autoParam (op ≠ .NotIn) L2.ad._auto_1):PTv X O (.Compare a [op] [b] pos) (fun ρ=>testD (bind2 (fa ρ) (fb ρ) g)):=by
  refine L2.o_EA (C.ex) fun rd ho hs=>?_
  refine (pt_cmpR ho ha hb (nomark b h1 h2)).imp fun σ H Q zpat=>?_
  obtain ⟨hid,H0,ρ,ow,k,E,hf,q⟩:=zpat
  obtain ⟨d,h3,h4⟩:=bind_some hf
  refine tOp_imp hs σ H _ ⟨hid,H0,ρ,ow,d,E,h3,fun v H' s D=>?_⟩
  rw [boolD_some h4] at D
  exact ⟨k,den_bl D,q H' s⟩
theorem t_val (h:PR X O e f) (he:∀ whole,isTrue e X.env whole = (do let v ← whole; standAt e.pos; holding [v] (truthy v)):=by intro _; rfl):PTv X O e (fun ρ=>testD (f ρ)):=
  (pt_val h he).imp fun σ H Q zpat=>by
    obtain ⟨hid,H0,ρ,ow,k,E,hf,q⟩:=zpat
    obtain ⟨d,h3,h4⟩:=bind_some hf
    refine ⟨hid,H0,ρ,ow,d,E,h3,fun v H' s D=>?_⟩
    rw [boolD_some h4] at D
    exact ⟨k,den_bl D,q H' s⟩
variable {ga gb:Rho → Option Bool} {rest:List Expr}
theorem w_and1 (ha:PTv X O a ga):PWv X O (.BoolOp .And [a] pos) ga:=pw_and1 ha
theorem w_or1 (ha:PTv X O a ga):PWv X O (.BoolOp .Or [a] pos) ga:=pw_or1 ha
theorem w_and (ha:PTv X O a ga) (hb:PWv X O (.BoolOp .And (b :: rest) pos) gb):PWv X O (.BoolOp .And (a :: b :: rest) pos) (fun ρ=>andB (ga ρ) (gb ρ)):=
  (pw_and ha hb).imp fun σ H Q zpat=>by
    obtain ⟨hid,H0,ρ,ow,k,E,hf,q⟩:=zpat
    obtain ⟨c,h1,h2⟩:=bind_some hf
    refine ⟨hid,H0,ρ,ow,c,E,h1,fun H1 s1=>?_⟩
    cases c with
    | true=>rw [if_pos rfl] at h2 ⊢; exact ⟨hid,H0,ρ,ow,k,E.mono s1,h2,fun H2 s2=>q H2 (s1.trans s2)⟩
    | false=>rw [if_neg Bool.false_ne_true] at h2 ⊢; cases h2; exact q H1 s1
theorem w_or (ha:PTv X O a ga) (hb:PWv X O (.BoolOp .Or (b :: rest) pos) gb):PWv X O (.BoolOp .Or (a :: b :: rest) pos) (fun ρ=>orB (ga ρ) (gb ρ)):=
  (pw_or ha hb).imp fun σ H Q zpat=>by
    obtain ⟨hid,H0,ρ,ow,k,E,hf,q⟩:=zpat
    obtain ⟨c,h1,h2⟩:=bind_some hf
    refine ⟨hid,H0,ρ,ow,c,E,h1,fun H1 s1=>?_⟩
    cases c with
    | true=>rw [if_pos rfl] at h2 ⊢; cases h2; exact q H1 s1
    | false=>rw [if_neg Bool.false_ne_true] at h2 ⊢; exact ⟨hid,H0,ρ,ow,k,E.mono s1,h2,fun H2 s2=>q H2 (s1.trans s2)⟩
theorem t_w (h:PWv X O e ga):PTv X O e ga:=h.pt
theorem t_not (ha:PTv X O a ga):PTv X O (.UnaryOp .Not a pos) (fun ρ=>(ga ρ).map not):=(pt_not ha).imp fun σ H Q zpat=>by
  obtain ⟨hid,H0,ρ,ow,k,E,hf,q⟩:=zpat
  obtain ⟨c,h1,h2⟩:=map_some hf
  subst h2
  exact ⟨hid,H0,ρ,ow,c,E,h1,fun H1 s1=>q H1 s1⟩
theorem r_one {op:BoolOp} (h:PR X O a fa):PR X O (.BoolOp op [a] pos) fa:=pe_one h
theorem r_and (ha:PR X O a fa) (hb:PR X O (.BoolOp .And (b :: rest) pos) fb):PR X O (.BoolOp .And (a :: b :: rest) pos) (fun ρ=>andV (fa ρ) (fb ρ)):=
  (pe_and ha hb).imp fun σ H Q zpat=>by
    obtain ⟨hid,H0,ρ,ow,k,E,hf,q⟩:=zpat
    obtain ⟨c,h1,h2⟩:=bind_some hf
    obtain ⟨d,h3,h4⟩:=bind_some h1
    refine ⟨hid,H0,ρ,ow,d,E,h3,fun v H1 s1 D=>?_⟩
    rw [boolD_some h4] at D
    refine ⟨c,den_bl D,?_⟩
    cases c with
    | true=>rw [if_pos rfl] at h2 ⊢; exact ⟨hid,H0,ρ,ow,k,E.mono s1,h2,fun w H2 s2 D2=>q w H2 (s1.trans s2) D2⟩
    | false=>rw [if_neg Bool.false_ne_true] at h2 ⊢; cases h2; exact q _ H1 s1 (.bl false)
theorem v_not (ha:PR X O a fa):PV X O (.UnaryOp .Not a pos) (fun ρ=>notV (fa ρ)):=(pe_not ha).imp fun σ H Q zpat=>by
  obtain ⟨hid,H0,ρ,ow,k,E,hf,q⟩:=zpat
  obtain ⟨c,h1,h2⟩:=map_some hf
  obtain ⟨d,h3,h4⟩:=bind_some h1
  subst h2
  refine ⟨hid,H0,ρ,ow,d,E,h3,fun v H1 s1 D=>?_⟩
  rw [boolD_some h4] at D
  exact ⟨c,den_bl D,q _ H1 s1 (.bl _)⟩
noncomputable def negD:PyData → Option PyData
  | .int i=>some (.int (-i))
  | _=>none
theorem v_neg (ha:PR X O a fa):PV X O (.UnaryOp .USub a pos) (fun ρ=>(fa ρ).bind negD):=(pe_un un_neg ha).imp fun σ H Q zpat=>by
  obtain ⟨hid,H0,ρ,ow,k,E,hf,q⟩:=zpat
  obtain ⟨d,h1,h2⟩:=bind_some hf
  unfold negD at h2
  split at h2
  · obtain rfl:=Option.some.inj h2
    exact ⟨hid,H0,ρ,ow,_,E,h1,fun v H1 s1 D=>⟨_,den_int D,q _ H1 s1 (.int _)⟩⟩
  · exact L2.no_ns h2
noncomputable def chainD (x y:Option PyData) (g g':PyData → PyData → Option PyData) (z:Option PyData):Option PyData:=x.bind fun d=>y.bind fun e=>((g d e).bind boolD).bind fun k=>if k = true then z.bind fun h=>g' e h else some (.bool false)
theorem v_chain {op op':CmpOp} {g g':PyData → PyData → Option PyData} (C:CmpD X op g) (C':CmpD X op' g') (ha:PR X O a fa) (hb:PR X O b fb) (hc:PR X O c fc) (hm:autoParam (lastMarks [op,op'] [b,c] = false) L2.aw._auto_1) :
    PV X O (.Compare a [op,op'] [b,c] pos) (fun ρ=>chainD (fa ρ) (fb ρ) g g' (fc ρ)):=by
  refine L2.o_EA (C.ex) fun rd ho hs=>?_
  refine L2.o_EA (C'.ex) fun rd' ho' hs'=>?_
  refine (pe_chain ho ho' ha hb hc hm).imp fun σ H Q zpat=>?_
  obtain ⟨hid,H0,ρ,ow,r,E,hf,q⟩:=zpat
  obtain ⟨d,h1,hf⟩:=bind_some hf
  obtain ⟨e,h2,hf⟩:=bind_some hf
  obtain ⟨k,h3,hf⟩:=bind_some hf
  obtain ⟨z,h4,h5⟩:=bind_some h3
  have hz:=boolD_some h5
  subst hz
  refine ⟨hid,H0,ρ,ow,d,E,h1,fun x H1 s1 D1=>⟨hid,H0,ρ,ow,e,E.mono s1,h2,fun y H2 s2 D2=>hs x y H2 d e _ _ ((D1.mono (del_mono s2 _)).mono (del_same _ _)) (D2.mono (del_same _ _)) h4 fun v S=>?_⟩⟩
  cases S
  refine ⟨k,rfl,?_⟩
  cases k with
  | true=>
    rw [if_pos rfl] at hf ⊢
    obtain ⟨h,h6,h7⟩:=bind_some hf
    exact ⟨hid,H0,ρ,ow,h,(E.mono s1).mono s2,h6,fun w H3 s3 D3=>hs' y w H3 e h r Q ((D2.mono (del_mono s3 _)).mono (del_same _ _)) (D3.mono (del_same _ _)) h7 fun v S=>q v H3 ((s1.trans s2).trans s3) S.den⟩
  | false=>
    rw [if_neg Bool.false_ne_true] at hf ⊢
    obtain rfl:=Option.some.inj hf
    exact q _ H2 (s1.trans s2) (.bl false)
noncomputable def ixD (d e:PyData):Option PyData:=(seqD d).bind fun ds=>(intO e).bind fun i=>atI ds i
theorem sp_ix {K:PySem.W.Frag}:SpecOpR K (fun x y H Q=>rIxL K x y H Q ∨ rIxT K x y H Q) ixD:=fun x y H G d e r Q s D1 D2 q k=>by
  obtain ⟨ds,h1,q⟩:=bind_some q
  obtain ⟨i,h2,q⟩:=bind_some q
  obtain rfl:=intO_some h2
  rcases seqD_some h1 with rfl | rfl
  · obtain ⟨p,vs,rfl,h1,h2⟩:=den_lst D1
    refine L2.o_EA (h2.atI q) fun v h3 h4=>?_
    exact .inl ⟨p,vs,_,v,rfl,den_int D2,s.seq h1,h3,k v h4⟩
  · obtain ⟨p,vs,rfl,h1,h2⟩:=den_tup D1
    refine L2.o_EA (h2.atI q) fun v h3 h4=>?_
    exact .inr ⟨p,vs,_,v,rfl,den_int D2,s.tup h1,h3,k v h4⟩
theorem r_ix (ha:PR X O a fa) (hb:PR X O b fb) (hs:PlainIx b:=by intro _ _; rfl):PR X O (.Subscript a b pos) (fun ρ=>bind2 (fa ρ) (fb ρ) ixD):=(pe_ix (ix_list.or ix_tup) ha hb hs).imp (tOp_impR sp_ix)
variable {es:List Expr} {fs:Rho → Option (List PyData)}
theorem a_nil:PAr X O [] (fun _=>some []):=pa_nil.imp fun σ H Q ⟨hid,H0,ρ,ow,ds,E,hf,k⟩=>by cases hf; exact k [] H (Same.refl H) .nil
theorem a_cons (ha:PR X O a fa) (hr:PAr X O es fs) (hs:autoParam (starEach (a :: es) X.env = (false,eval a X.env) :: starEach es X.env) L2.ar._auto_1):PAr X O (a :: es) (fun ρ=>consD (fa ρ) (fs ρ)):=
  (pa_cons ha hr hs).imp fun σ H Q zpat=>by
    obtain ⟨hid,H0,ρ,ow,ds,E,hf,k⟩:=zpat
    obtain ⟨d,h1,hf⟩:=bind_some hf
    obtain ⟨r,h2,rfl⟩:=map_some hf
    exact ⟨hid,H0,ρ,ow,d,E,h1,fun x H1 s1 D1=>⟨hid,H0,ρ,ow,r,E.mono s1,h2,fun xs H2 s2 D2=>k (x :: xs) H2 (s1.trans s2) (.cons (D1.mono (del_mono s2 _)) D2)⟩⟩
theorem ac_nil:PAv X O [] (fun _=>some []):=pa_nil.imp fun σ H Q ⟨hid,H0,ρ,ow,ds,E,hf,k⟩=>by cases hf; exact k [] H (Same.refl H) .nil
theorem ac_cons (ha:PV X O a fa) (hr:PAv X O es fs) (hs:autoParam (starEach (a :: es) X.env = (false,eval a X.env) :: starEach es X.env) L2.ar._auto_1):PAv X O (a :: es) (fun ρ=>consD (fa ρ) (fs ρ)):=
  (pa_cons ha hr hs).imp fun σ H Q zpat=>by
    obtain ⟨hid,H0,ρ,ow,ds,E,hf,k⟩:=zpat
    obtain ⟨d,h1,hf⟩:=bind_some hf
    obtain ⟨r,h2,rfl⟩:=map_some hf
    exact ⟨hid,H0,ρ,ow,d,E,h1,fun x H1 s1 D1=>⟨hid,H0,ρ,ow,r,E.mono s1,h2,fun xs H2 s2 D2=>k (x :: xs) H2 (s1.trans s2) (.cons (D1.mono (del_mono s2 _)) D2)⟩⟩
theorem len_line {n:Nat} (h:decide (n ≤ 1000) = true):n ≤ sizeLine:=Nat.le_trans (of_decide_eq_true h) (by decide)
noncomputable def shortL (o:Option (List PyData)):Option (List PyData):=o.bind fun ds=>if decide (ds.length ≤ 1000) = true then some ds else none
theorem shortL_some {o:Option (List PyData)} {r:List PyData} (h:shortL o = some r):o = some r ∧ r.length ≤ sizeLine:=by
  obtain ⟨ds,h1,h2⟩:=bind_some h
  split at h2
  · rename_i hc
    obtain rfl:=Option.some.inj h2
    exact ⟨h1,len_line hc⟩
  · exact L2.no_ns h2
theorem fc_lst (h:PAv X O es fs):PFc X O (.List es pos) (fun ρ=>shortL (fs ρ)):=(pe_lst h).imp fun σ H Q zpat=>by
  obtain ⟨hid,H0,ρ,ow,r,E,hf,k⟩:=zpat
  refine L2.o_A (shortL_some hf) fun h1 h2=>?_
  refine ⟨hid,H0,ρ,ow,r,E,h1,fun vs H1 s1 D1=>⟨by rw [D1.length]; exact h2,fun p hp=>?_⟩⟩
  exact k _ vs _ (s1.trans (same_new hp)) (s1.free hp) upd_same (D1.mono (del_new (same_new hp) hp fun b z=>by rcases z with z | z; exact .inl (.inl z); rcases List.mem_cons.mp z with z | z; exact .inr z; exact .inl (.inr z)))
theorem fr_lst (h:PAr X O es fs):PFr X O (.List es pos) (fun ρ=>shortL (fs ρ)):=(pe_lst h).imp fun σ H Q zpat=>by
  obtain ⟨hid,H0,ρ,ow,r,E,hf,k⟩:=zpat
  refine L2.o_A (shortL_some hf) fun h1 h2=>?_
  refine ⟨hid,H0,ρ,ow,r,E,h1,fun vs H1 s1 D1=>⟨by rw [D1.length]; exact h2,fun p hp=>?_⟩⟩
  exact k _ vs _ (s1.trans (same_new hp)) (s1.free hp) upd_same (D1.mono (del_new (same_new hp) hp fun b z=>by rcases z with z | z; exact .inl z; exact .inr (by simpa using z)))
noncomputable def catL (x y:Option PyData):Option (List PyData):=(x.bind listD).bind fun ds=>(y.bind listD).bind fun es=>if decide ((ds ++ es).length ≤ 1000) = true then some (ds ++ es) else none
theorem listD_some {d:PyData} {ds:List PyData} (h:listD d = some ds):d = .list ds:=by
  cases d with
  | list es=>rw [Option.some.inj h]
  | _=>exact L2.no_ns h
theorem catL_some {x y:Option PyData} {r:List PyData} (h:catL x y = some r):∃ ds es,x = some (.list ds) ∧ y = some (.list es) ∧ r = ds ++ es ∧ ds.length + es.length ≤ sizeLine:=by
  obtain ⟨ds,h1,h⟩:=bind_some h
  obtain ⟨es,h2,h⟩:=bind_some h
  obtain ⟨d,h3,h4⟩:=bind_some h1
  obtain ⟨e,h5,h6⟩:=bind_some h2
  rw [listD_some h4] at h3
  rw [listD_some h6] at h5
  split at h
  · rename_i hc
    obtain rfl:=Option.some.inj h
    exact L2.i_EEAAA (ds) (es) (h3) (h5) (rfl) (by rw [← List.length_append]; exact len_line hc)
  · exact L2.no_ns h
theorem fr_cat (ha:PR X O a fa) (hb:PR X O b fb):PFr X O (.BinOp a .Add b pos) (fun ρ=>catL (fa ρ) (fb ρ)):=(pe_op op_catS ha hb).imp fun σ H Q zpat=>by
  obtain ⟨hid,H0,ρ,ow,r,E,hf,k⟩:=zpat
  refine L2.o_EEAAA (catL_some hf) fun ds es h1 h2 zq4 hl=>?_
  subst zq4
  refine ⟨hid,H0,ρ,ow,_,E,h1,fun x H1 s1 D1=>⟨hid,H0,ρ,ow,_,E.mono s1,h2,fun y H2 s2 D2=>?_⟩⟩
  obtain ⟨l,xs,rfl,q1,r1⟩:=den_lst D1
  obtain ⟨m,ys,rfl,q2,r2⟩:=den_lst D2
  refine L2.i_EEEEAAAAA (l) (m) (xs) (ys) (rfl) (rfl) (s2.seq ((del_same _ _).seq q1)) ((del_same _ _).seq q2) (by rw [r1.length,r2.length]; exact hl) (fun p hp=>?_)
  exact k _ _ _ ((s1.trans s2).trans (same_new hp)) ((s1.trans s2).free hp) upd_same (((r1.mono (del_mono s2 _)).append r2).mono (del_new (same_new hp) hp fun b z=>by rcases z with z | z; exact .inl z; exact .inr (by simpa using z)))
noncomputable def spR (K:PySem.W.Frag) (T:Ty) (F:List PyData → Option PyData):Sp:=fun vs H Q _=>∃ (hid:Addr → Prop) (ds:List PyData) (r:PyData),(∀ b,hid b → ∃ vs,H b = some (.lst vs)) ∧ DenL K (del H hid) vs ds ∧ F ds = some r ∧ ∀ v as H',Same H H' → (∀ p ∈ as,H p = none) → DenO K H' (del H' (uni hid as)) T v r as → Q v H'
noncomputable def tFt (K:PySem.W.Frag) (O:Ow) (T:Ty) (f:Rho → Option PyData):TE:=fun σ H Q=>At5 K O f σ H fun hid H0 ρ ow d=>∀ v as H',Same H H' → (∀ p ∈ as,H p = none) → DenO K H' (del H' (uni hid (as ++ ow))) T v d as → Q v H'
noncomputable abbrev PFt (X:Cx) (O:Ow) (T:Ty) (e:Expr) (f:Rho → Option PyData):Prop:=PE X e (tFt X.K O T f)
theorem uni_mono {hid:Addr → Prop} {as bs:List Addr} (h:∀ p ∈ as,p ∈ bs) (b:Addr) (z:uni hid as b):uni hid bs b:=by
  rcases z with z | z
  · exact .inl z
  · exact .inr (h b z)
theorem PFc.ft {f:Rho → Option (List PyData)} (h:PFc X O e f):PFt X O (.lst .cl) e (fun ρ=>(f ρ).map .list):=h.imp fun σ H Q zpat=>by
  obtain ⟨hid,H0,ρ,ow,d,E,hf,k⟩:=zpat
  obtain ⟨ds,h1,rfl⟩:=map_some hf
  refine ⟨hid,H0,ρ,ow,ds,E,h1,fun l vs H' s n q D=>k (.ref l) [l] H' s (fun p hp=>by rw [List.mem_singleton.mp hp]; exact n) (.lst q D.os (by simp))⟩
theorem r_call {k:Nat} {g:Addr} {fd:FuncData} {ps:List Str} {x:Str} {p:Pos} {T:Ty} {F:List PyData → Option PyData} (G:FnOk X.prog X.w X.K X.mg X.base CX0 k g fd ps (spR X.K T F)) (hr:Room k X.A) (hg:Gl X x) (hm:X.mg x = some (.ref g)) (hk:PySem.W.keepIn X.K (.ref g) = true) (hb:Binds X.K fd ps [])
    (ha:PAr X O (a :: es) fs) (hdb:autoParam ((x == ("__debug__":Str)) = false) L2.ad._auto_1) (he:autoParam (starEach (a :: es) X.env = (false,eval a X.env) :: starEach es X.env) L2.ar._auto_1) (hpl:autoParam ((backTo pos (starEach es X.env)).any (·.1) = false) L2.ar._auto_1) :
    PR X O (.Call (.Name x p) (a :: es) [] pos) (fun ρ=>(fs ρ).bind F):=
  (pe_call G hr hg hm hk hb .nil pass0 ha hdb he hpl).imp fun σ H Q zpat=>by
    obtain ⟨hid,H0,ρ,ow,r,E,hf,q⟩:=zpat
    obtain ⟨ds,h1,h2⟩:=bind_some hf
    refine ⟨hid,H0,ρ,ow,ds,E,h1,fun vs H1 s1 D1=>⟨hid,ds,r,(E.mono s1).ishL,by rw [List.append_nil]; exact D1,h2,fun v as H2 s2 n2 D2=>q v H2 (s1.trans s2) ?_⟩⟩
    exact D2.raw (del_uni _ _ _) fun p hp o e=>by rw [del_out fun z=>(E.mono s1).ish p z (n2 p hp)]; exact e
theorem ft_call {k:Nat} {g:Addr} {fd:FuncData} {ps:List Str} {x:Str} {p:Pos} {T:Ty} {F:List PyData → Option PyData} (G:FnOk X.prog X.w X.K X.mg X.base CX0 k g fd ps (spR X.K T F)) (hr:Room k X.A) (hg:Gl X x) (hm:X.mg x = some (.ref g)) (hk:PySem.W.keepIn X.K (.ref g) = true) (hb:Binds X.K fd ps [])
    (ha:PAv X O (a :: es) fs) (hdb:autoParam ((x == ("__debug__":Str)) = false) L2.ad._auto_1) (he:autoParam (starEach (a :: es) X.env = (false,eval a X.env) :: starEach es X.env) L2.ar._auto_1) (hpl:autoParam ((backTo pos (starEach es X.env)).any (·.1) = false) L2.ar._auto_1) :
    PFt X O T (.Call (.Name x p) (a :: es) [] pos) (fun ρ=>(fs ρ).bind F):=
  (pe_call G hr hg hm hk hb .nil pass0 ha hdb he hpl).imp fun σ H Q zpat=>by
    obtain ⟨hid,H0,ρ,ow,r,E,hf,q⟩:=zpat
    obtain ⟨ds,h1,h2⟩:=bind_some hf
    refine ⟨hid,H0,ρ,ow,ds,E,h1,fun vs H1 s1 D1=>⟨uni hid ow,ds,r,(E.mono s1).uniL,by rw [List.append_nil]; exact D1,h2,fun v as H2 s2 n2 D2=>q v as H2 (s1.trans s2) (fun p hp=>s1.free (n2 p hp)) ?_⟩⟩
    refine D2.mono (del_sub fun b z=>?_) fun p _ o e=>e
    rcases z with z | z
    · exact .inl (.inl z)
    · rcases List.mem_append.mp z with z | z
      · exact .inr z
      · exact .inl (.inr z)
theorem v_call {k:Nat} {g:Addr} {fd:FuncData} {ps:List Str} {x:Str} {p:Pos} {T:Ty} {F:List PyData → Option PyData} (G:FnOk X.prog X.w X.K X.mg X.base CX0 k g fd ps (spR X.K T F)) (hr:Room k X.A) (hg:Gl X x) (hm:X.mg x = some (.ref g)) (hk:PySem.W.keepIn X.K (.ref g) = true) (hb:Binds X.K fd ps [])
    (ha:PAv X O (a :: es) fs) (hdb:autoParam ((x == ("__debug__":Str)) = false) L2.ad._auto_1) (he:autoParam (starEach (a :: es) X.env = (false,eval a X.env) :: starEach es X.env) L2.ar._auto_1) (hpl:autoParam ((backTo pos (starEach es X.env)).any (·.1) = false) L2.ar._auto_1) :
    PV X O (.Call (.Name x p) (a :: es) [] pos) (fun ρ=>(fs ρ).bind F):=
  (pe_call G hr hg hm hk hb .nil pass0 ha hdb he hpl).imp fun σ H Q zpat=>by
    obtain ⟨hid,H0,ρ,ow,r,E,hf,q⟩:=zpat
    obtain ⟨ds,h1,h2⟩:=bind_some hf
    refine ⟨hid,H0,ρ,ow,ds,E,h1,fun vs H1 s1 D1=>⟨uni hid ow,ds,r,(E.mono s1).uniL,by rw [List.append_nil]; exact D1,h2,fun v as H2 s2 n2 D2=>q v H2 (s1.trans s2) ?_⟩⟩
    exact D2.raw (del_uni _ _ _) fun p hp o e=>by rw [del_out fun z=>(E.mono s1).fresh (n2 p hp) z]; exact e
noncomputable def tRt (K:PySem.W.Frag) (O:Ow) (U:List Nat) (T:Ty) (f:Rho → Option PyData):TE:=fun σ H Q=>∃ hid H0 ρ ow d A,EnvOk K O hid H0 σ H ρ ow ∧ OwnA K O hid σ H ρ ow A ∧ f ρ = some d ∧ ∀ v as H',Same H H' → (∀ p ∈ as,H p = none ∨ ∃ i ∈ U,p ∈ A i) → DenO K H' (del H' (uni hid (as ++ ow))) T v d as → Q v H'
noncomputable def tRa (K:PySem.W.Frag) (O:Ow) (U:List Nat) (Ts:List Ty) (f:Rho → Option (List PyData)):TA:=fun σ H Q=>∃ hid H0 ρ ow ds A,EnvOk K O hid H0 σ H ρ ow ∧ OwnA K O hid σ H ρ ow A ∧ f ρ = some ds ∧ ∀ vs as H',Same H H' → (∀ p ∈ as,H p = none ∨ ∃ i ∈ U,p ∈ A i) → DenOp K H' (del H' (uni hid (as ++ ow))) Ts vs ds as → Q vs H'
noncomputable abbrev PRt (X:Cx) (O:Ow) (U:List Nat) (T:Ty) (e:Expr) (f:Rho → Option PyData):Prop:=PE X e (tRt X.K O U T f)
noncomputable abbrev PRa (X:Cx) (O:Ow) (U:List Nat) (Ts:List Ty) (es:List Expr) (f:Rho → Option (List PyData)):Prop:=PA X es (tRa X.K O U Ts f)
variable {T:Ty} {Ts:List Ty} {U U':List Nat}
theorem PFt.rt (h:PFt X O T e f):PRt X O [] T e f:=h.imp fun σ H Q zpat=>by
  refine L2.o_EEEEEEAAA (zpat) fun hid H0 ρ ow d A E EA hf k=>?_
  exact ⟨hid,H0,ρ,ow,d,E,hf,fun v as H' s n D=>k v as H' s (fun p hp=>.inl (n p hp)) D⟩
theorem rt_name {i:Nat} (h:PE X e (tVar i)) (hi:autoParam (O.s.lookup i = some T) L2.ar._auto_1):PRt X O [i] T e (fun ρ=>(ρ[i]?).join):=h.imp fun σ H Q zpat=>by
  refine L2.o_EEEEEEAAA (zpat) fun hid H0 ρ ow d A E EA hf k=>?_
  refine L2.o_EA (EA.1 i T d hi (join_some hf)) fun v h1 h2=>?_
  refine ⟨v,h1,k v (A i) H (Same.refl H) (fun p hp=>.inr ⟨i,List.mem_singleton.mpr rfl,hp⟩) (h2.mono (del_sub fun b z=>?_) fun p _ o e=>e)⟩
  rcases z with z | z
  · exact .inl z
  · rcases List.mem_append.mp z with z | z
    · exact .inr (EA.2.2 i b z)
    · exact .inr z
noncomputable def SpecCall (K:PySem.W.Frag) (r:List V → Hp → VK → Prop) (g:List PyData → Option PyData):Prop:=∀ xs H ds d Q,DenL K H xs ds → g ds = some d → (∀ v,Sc v d → Q v H) → r xs H Q
structure CallD (X:Cx) (u:Value) (g:List PyData → Option PyData):Prop where
  ex:∃ r,CallR X u r ∧ SpecCall X.K r g
theorem v_callB {x:Str} {p:Pos} {id:String} {g:List PyData → Option PyData} (C:CallD X (.builtin id) g) (hg:Gl X x) (hm:X.mg x = none) (hv:bootBuiltins x = some (.builtin id)) (ha:PAr X O (a :: es) fs) (hn:autoParam (x ≠ "__name__") L2.ad._auto_1) (hdb:autoParam ((x == ("__debug__":Str)) = false) L2.ad._auto_1)
    (he:autoParam (starEach (a :: es) X.env = (false,eval a X.env) :: starEach es X.env) L2.ar._auto_1) (hpl:autoParam ((backTo pos (starEach es X.env)).any (·.1) = false) L2.ar._auto_1):PV X O (.Call (.Name x p) (a :: es) [] pos) (fun ρ=>(fs ρ).bind g):=by
  refine L2.o_EA (C.ex) fun r hc hs=>?_
  refine (pe_callB hc hg hm hv ha hn hdb he hpl).imp fun σ H Q zpat=>?_
  obtain ⟨hid,H0,ρ,ow,d,E,hf,q⟩:=zpat
  obtain ⟨ds,h1,h2⟩:=bind_some hf
  exact ⟨hid,H0,ρ,ow,ds,E,h1,fun vs H1 s1 D1=>hs vs H1 ds d Q (D1.mono (del_same _ _)) h2 fun v S=>q v H1 s1 S.den⟩
theorem v_callT {x:Str} {p:Pos} {T:String} {g:List PyData → Option PyData} (C:CallD X (.type T) g) (hg:Gl X x) (hm:X.mg x = none) (hv:bootBuiltins x = some (.type T)) (ha:PAr X O (a :: es) fs) (hn:autoParam (x ≠ "__name__") L2.ad._auto_1) (hdb:autoParam ((x == ("__debug__":Str)) = false) L2.ad._auto_1)
    (he:autoParam (starEach (a :: es) X.env = (false,eval a X.env) :: starEach es X.env) L2.ar._auto_1) (hpl:autoParam ((backTo pos (starEach es X.env)).any (·.1) = false) L2.ar._auto_1):PV X O (.Call (.Name x p) (a :: es) [] pos) (fun ρ=>(fs ρ).bind g):=by
  refine L2.o_EA (C.ex) fun r hc hs=>?_
  refine (pe_callTy hc hg hm hv ha hn hdb he hpl).imp fun σ H Q zpat=>?_
  obtain ⟨hid,H0,ρ,ow,d,E,hf,q⟩:=zpat
  obtain ⟨ds,h1,h2⟩:=bind_some hf
  exact ⟨hid,H0,ρ,ow,ds,E,h1,fun vs H1 s1 D1=>hs vs H1 ds d Q (D1.mono (del_same _ _)) h2 fun v S=>q v H1 s1 S.den⟩
noncomputable def lenD (ds:List PyData):Option PyData:=(one ds).bind fun d=>(seqD d).map fun es=>.int es.length
noncomputable def minD (ds:List PyData):Option PyData:=(two ds).bind fun p=>int2 (fun i j=>.int (if j < i then j else i)) p.1 p.2
noncomputable def intB:PyData → Option PyData
  | .int i=>some (.int i)
  | .bool b=>some (.int (if b then 1 else 0))
  | _=>none
noncomputable def intD (ds:List PyData):Option PyData:=(one ds).bind intB
theorem one_den {K:PySem.W.Frag} {H:Hp} {vs:List V} {d:PyData} (h:DenL K H vs [d]):∃ v,vs = [v] ∧ Den K H v d:=by
  refine L2.o_EEAA (denl_cons h) fun v ws zq2 h1 h2=>?_
  subst zq2
  rw [denl_nil h2]
  exact ⟨v,rfl,h1⟩
theorem two_den {K:PySem.W.Frag} {H:Hp} {vs:List V} {d e:PyData} (h:DenL K H vs [d,e]):∃ v w,vs = [v,w] ∧ Den K H v d ∧ Den K H w e:=by
  refine L2.o_EEAA (denl_cons h) fun v ws zq2 h1 h2=>?_
  subst zq2
  refine L2.o_EA (one_den h2) fun w zq1 h3=>?_
  subst zq1
  exact L2.i_EEAA (v) (w) (rfl) (h1) (h3)
theorem b_len:CallD X (.builtin "len") lenD:=⟨_,call_len_seq,fun xs H ds d Q D h k=>by
  obtain ⟨e,h1,h⟩:=bind_some h
  obtain ⟨es,h2,rfl⟩:=map_some h
  obtain rfl:=one_some h1
  refine L2.o_EA (one_den D) fun v zq1 D1=>?_
  subst zq1
  rcases seqD_some h2 with rfl | rfl
  · obtain ⟨p,vs,rfl,q,r⟩:=den_lst D1
    exact L2.i_EEAA (p) (vs) (rfl) (.inl q) (by rw [r.length]; exact k _ (.int _))
  · obtain ⟨p,vs,rfl,q,r⟩:=den_tup D1
    exact L2.i_EEAA (p) (vs) (rfl) (.inr q) (by rw [r.length]; exact k _ (.int _))⟩
theorem two_ints {K:PySem.W.Frag} {H:Hp} {vs:List V} {ds:List PyData} {g:Int → Int → PyData} {r:PyData} (D:DenL K H vs ds) (h:((two ds).bind fun p=>int2 g p.1 p.2) = some r):∃ i j,vs = [.int i,.int j] ∧ r = g i j:=by
  obtain ⟨p,h1,h⟩:=bind_some h
  refine L2.o_EEAA (int2_some h) fun i j h2 h3 h4=>?_
  obtain rfl:=two_some h1
  rw [h2,h3] at D
  refine L2.o_EEAA (two_den D) fun v w zq2 D1 D2=>?_
  subst zq2
  exact L2.i_EEA (i) (j) (by rw [den_int D1,den_int D2]) (h4)
theorem b_min (hc:X.calm = true):CallD X (.builtin "min") minD:=⟨_,call_min2 hc,fun xs H ds d Q D h k=>by
  refine L2.o_EEA (two_ints D h) fun i j h1 h2=>?_
  subst h2
  exact L2.i_EEA (i) (j) (h1) (k _ (.int _))⟩
theorem b_int:CallD X (.type "int") intD:=⟨_,call_int1,fun xs H ds d Q D h k=>by
  obtain ⟨e,h1,h⟩:=bind_some h
  obtain rfl:=one_some h1
  refine L2.o_EA (one_den D) fun v zq1 D1=>?_
  subst zq1
  cases e with
  | int i=>
    obtain rfl:=Option.some.inj h
    exact .inl ⟨_,by rw [den_int D1],k _ (.int _)⟩
  | bool b=>
    obtain rfl:=Option.some.inj h
    exact .inr ⟨_,by rw [den_bl D1],k _ (.int _)⟩
  | _=>exact L2.no_ns h⟩
theorem fr_list {p:Pos} (hg:Gl X "list") (hm:X.mg "list" = none) (ha:PR X O a fa) (he:autoParam (starEach [a] X.env = (false,eval a X.env) :: starEach [] X.env) L2.ar._auto_1) (hpl:autoParam ((backTo pos (starEach [] X.env)).any (·.1) = false) L2.ar._auto_1)
    (hv:bootBuiltins "list" = some (.type "list"):=by first | exact PySem.boot_list | rfl):PFr X O (.Call (.Name "list" p) [a] [] pos) (fun ρ=>(fa ρ).bind seqD):=
  (pe_callTy call_list_of hg hm hv (pa_cons ha pa_nil he) (by decide) (by decide) he hpl).imp fun σ H Q zpat=>by
    obtain ⟨hid,H0,ρ,ow,r,E,hf,k⟩:=zpat
    obtain ⟨d,h1,h2⟩:=bind_some hf
    refine ⟨hid,H0,ρ,ow,d,E,h1,fun x H1 s1 D1=>?_⟩
    rcases seqD_some h2 with rfl | rfl
    · obtain ⟨q,vs,rfl,q1,r1⟩:=den_lst D1
      exact L2.i_EEAA (q) (vs) (rfl) (.inl ((del_same _ _).seq q1)) (fun l hl=>k l vs _ (s1.trans (same_new hl)) (s1.free hl) upd_same (r1.mono (del_new (same_new hl) hl fun b z=>by rcases z with z | z; exact .inl z; exact .inr (by simpa using z))))
    · obtain ⟨q,vs,rfl,q1,r1⟩:=den_tup D1
      exact L2.i_EEAA (q) (vs) (rfl) (.inr ((del_same _ _).tup q1)) (fun l hl=>k l vs _ (s1.trans (same_new hl)) (s1.free hl) upd_same (r1.mono (del_new (same_new hl) hl fun b z=>by rcases z with z | z; exact .inl z; exact .inr (by simpa using z))))
end
end L2
namespace L2
open PySem PySem.Spec PyProof.Rows
variable [Reg]
inductive TGi (K:PySem.W.Frag) (O:Ow) (S:PyData → Rho → Option Rho) (v:V) (σ:St) (H:Hp) (Q:St → Hp → Prop):Prop
  | mk (hid:Addr → Prop) (H0:Hp) (ρ:Rho) (ow:List Addr) (d:PyData) (ρ':Rho) (E:EnvOk K O hid H0 σ H ρ ow) (D:Den K (del H (uni hid ow)) v d) (hs:S d ρ = some ρ') (k:∀ σ',EnvOk K O hid H0 σ' H ρ' ow → Q σ' H):TGi K O S v σ H Q
noncomputable def tG (K:PySem.W.Frag) (O:Ow) (S:PyData → Rho → Option Rho):TG:=fun v σ H Q=>TGi K O S v σ H Q
inductive TGsi (K:PySem.W.Frag) (O:Ow) (S:List PyData → Rho → Option Rho) (vs:List V) (σ:St) (H:Hp) (Q:St → Hp → Prop):Prop
  | mk (hid:Addr → Prop) (H0:Hp) (ρ:Rho) (ow:List Addr) (ds:List PyData) (ρ':Rho) (E:EnvOk K O hid H0 σ H ρ ow) (D:DenL K (del H (uni hid ow)) vs ds) (hs:S ds ρ = some ρ') (k:∀ σ',EnvOk K O hid H0 σ' H ρ' ow → Q σ' H):TGsi K O S vs σ H Q
noncomputable def tGs (K:PySem.W.Frag) (O:Ow) (S:List PyData → Rho → Option Rho):TGs:=fun vs σ H Q=>TGsi K O S vs σ H Q
noncomputable abbrev PGv (X:Cx) (O:Ow) (tg:Expr) (S:PyData → Rho → Option Rho):Prop:=PG X tg (tG X.K O S)
noncomputable abbrev PGsv (X:Cx) (O:Ow) (tg:List Expr) (S:List PyData → Rho → Option Rho):Prop:=PGs X tg (tGs X.K O S)
noncomputable def setS (i:Nat) (d:PyData) (ρ:Rho):Option Rho:=some (ρ.set i (some d))
noncomputable def consS (S:PyData → Rho → Option Rho) (T:List PyData → Rho → Option Rho):List PyData → Rho → Option Rho
  | d :: r,ρ=>(S d ρ).bind (T r)
  | [],_=>none
noncomputable def nilS:List PyData → Rho → Option Rho
  | [],ρ=>some ρ
  | _ :: _,_=>none
noncomputable def tupS (n:Nat) (T:List PyData → Rho → Option Rho):PyData → Rho → Option Rho
  | .tuple ds,ρ=>if ds.length = n then T ds ρ else none
  | _,_=>none
section
variable {X:Cx} {O:Ow} {pos:Pos}
theorem g_name {i:Nat} {x:Str} (hN:X.N.Nodup) (hi:X.N[i]? = some x) (hx:Loc X.env.scope x) (hO:autoParam (O.s.lookup i = none) L2.ar._auto_1) (hf:X.fn x = true ∨ X.env.scope.names.lookup x = some .local:=by first | exact .inl rfl | exact .inr rfl | assumption):PGv X O (.Name x pos) (setS i):=
  (pg_name hN hi hx hf).imp fun v σ H Q zpat=>by
    obtain ⟨hid,H0,ρ,ow,d,ρ',E,D,hS,k⟩:=zpat
    obtain rfl:=Option.some.inj hS
    exact k _ (E.set hO D)
theorem gs_nil:PGsv X O [] nilS:=pgs_nil.imp fun vs σ H Q zpat=>by
  obtain ⟨hid,H0,ρ,ow,ds,ρ',E,D,hS,k⟩:=zpat
  cases ds with
  | nil=>cases hS; exact ⟨denl_nil D,k _ E⟩
  | cons d r=>exact L2.no_ns hS
theorem gs_cons {e:Expr} {es:List Expr} {S:PyData → Rho → Option Rho} {T:List PyData → Rho → Option Rho} (h1:PGv X O e S) (h2:PGsv X O es T) (hs:autoParam ((assignEach (e :: es) X.env).map (·.2) = assign e X.env :: (assignEach es X.env).map (·.2)) L2.ar._auto_1):PGsv X O (e :: es) (consS S T):=
  (pgs_cons h1 h2 hs).imp fun vs σ H Q zpat=>by
    obtain ⟨hid,H0,ρ,ow,ds,ρ',E,D,hS,k⟩:=zpat
    cases ds with
    | nil=>exact L2.no_ns hS
    | cons d r=>
      refine L2.o_EEAA (denl_cons D) fun v ws zq2 D1 D2=>?_
      subst zq2
      obtain ⟨ρ1,h3,h4⟩:=bind_some hS
      exact ⟨v,ws,rfl,hid,H0,ρ,ow,d,ρ1,E,D1,h3,fun σ1 E1=>⟨hid,H0,ρ1,ow,r,ρ',E1,D2,h4,k⟩⟩
theorem g_tup {es:List Expr} {k:Nat} {n:Nat} {T:List PyData → Rho → Option Rho} (hc:X.calm = true) (h:PGsv X O es T) (hn:autoParam ((assignEach es X.env).length = n) L2.ar._auto_1) (hst:autoParam ((assignEach es X.env).findIdx? (·.1) = none) L2.ar._auto_1):PGv X O (.Tuple es k pos) (tupS n T):=
  (pg_tup hc h hn hst).imp fun v σ H Q zpat=>by
    obtain ⟨hid,H0,ρ,ow,d,ρ',E,D,hS,k⟩:=zpat
    cases d with
    | tuple ds=>
      rw [tupS] at hS
      split at hS
      · rename_i hl
        obtain ⟨a,vs,rfl,q,r⟩:=den_tup D
        exact ⟨a,vs,rfl,(del_same _ _).tup q,by rw [r.length]; exact hl,hid,H0,ρ,ow,ds,ρ',E,r,hS,k⟩
      · exact L2.no_ns hS
    | _=>exact L2.no_ns hS
end
structure GoodIt (K:PySem.W.Frag) (J:It) (G:Hp) (ds:List PyData):Prop where
  go:∀ H2 i,Same G H2 → i < ds.length → J.go i H2
  yld:∀ H2 i x H3 d,Same G H2 → ds[i]? = some d → J.yld i H2 x H3 → (H3 = H2 ∧ Den K G x d) ∨ ∃ p vs es,H2 p = none ∧ H3 = upd H2 p (.tup vs) ∧ x = .ref p ∧ d = .tuple es ∧ DenL K G vs es
  stop:∀ H2,Same G H2 → J.stop ds.length H2
noncomputable def tIr (K:PySem.W.Frag) (O:Ow) (f:Rho → Option (List PyData)):TI:=fun σ H R=>At5 K O f σ H fun hid H0 ρ ow ds=>∀ J H',Same H H' → GoodIt K J (del H' hid) ds → R J H'
noncomputable def tIv (K:PySem.W.Frag) (O:Ow) (f:Rho → Option (List PyData)):TI:=fun σ H R=>At5 K O f σ H fun hid H0 ρ ow ds=>∀ J H',Same H H' → GoodIt K J (del H' (uni hid ow)) ds → R J H'
noncomputable abbrev PIr (X:Cx) (O:Ow) (tg iter:Expr) (f:Rho → Option (List PyData)):Prop:=PI X tg iter (tIr X.K O f)
noncomputable abbrev PIv (X:Cx) (O:Ow) (tg iter:Expr) (f:Rho → Option (List PyData)):Prop:=PI X tg iter (tIv X.K O f)
theorem good_list {K:PySem.W.Frag} {G:Hp} {a:Addr} {xs:List V} {ds:List PyData} (q:SqL K G a xs) (r:DenL K G xs ds):GoodIt K (Itl K a) G ds where
  go:=fun H2 i s h=>by
    have hl:i < xs.length:=by rw [r.length]; exact h
    exact L2.i_EEA (xs) (xs[i]) (s.seq q) (by simp [hl])
  yld:=fun H2 i x H3 d s h y=>by
    revert y
    refine fun zqq=>L2.o_A zqq fun zq0 y=>?_
    clear zqq
    subst zq0
    refine L2.o_EA (r.get h) fun v h1 h2=>?_
    have:=y xs (s.seq q)
    rw [h1] at this
    obtain rfl:=Option.some.inj this
    exact .inl ⟨rfl,h2⟩
  stop:=fun H2 s=>⟨xs,s.seq q,by rw [r.length]; exact Nat.le_refl _⟩
theorem good_tup {K:PySem.W.Frag} {G:Hp} {a:Addr} {xs:List V} {ds:List PyData} (q:SqT K G a xs) (r:DenL K G xs ds):GoodIt K (Itt K a) G ds where
  go:=fun H2 i s h=>by
    have hl:i < xs.length:=by rw [r.length]; exact h
    exact L2.i_EEA (xs) (xs[i]) (s.tup q) (by simp [hl])
  yld:=fun H2 i x H3 d s h y=>by
    revert y
    refine fun zqq=>L2.o_A zqq fun zq0 y=>?_
    clear zqq
    subst zq0
    refine L2.o_EA (r.get h) fun v h1 h2=>?_
    have:=y xs (s.tup q)
    rw [h1] at this
    obtain rfl:=Option.some.inj this
    exact .inl ⟨rfl,h2⟩
  stop:=fun H2 s=>⟨xs,s.tup q,by rw [r.length]; exact Nat.le_refl _⟩
noncomputable def rngL (lo:Int) (n:Nat):List PyData:=(List.range n).map fun i=>.int (lo + (i:Nat))
theorem good_rng {K:PySem.W.Frag} {G:Hp} (lo:Int) (n:Nat):GoodIt K (Itr lo n) G (rngL lo n) where
  go:=fun H2 i s h=>by
    have:i < n:=by simpa [rngL] using h
    exact this
  yld:=fun H2 i x H3 d s h y=>by
    revert y
    refine fun zqq=>L2.o_A zqq fun zq0 zq1=>?_
    clear zqq
    subst zq0
    subst zq1
    have:i < n ∧ PyData.int (lo + i) = d:=by
      unfold rngL at h
      rw [List.getElem?_map] at h
      cases e:(List.range n)[i]? with
      | none=>rw [e] at h; cases h
      | some j=>
        rw [e] at h
        refine L2.o_E (List.getElem?_eq_some_iff.mp e) fun h1 h2=>?_
        have h3:i = j:=by simpa using h2
        subst h3
        exact ⟨by simpa using h1,Option.some.inj h⟩
    rw [← this.2]
    exact .inl ⟨rfl,.int _⟩
  stop:=fun H2 s=>by
    show n ≤ (rngL lo n).length
    simp [rngL]
section
variable {X:Cx} {O:Ow} {pos p:Pos} {tg e:Expr} {f:Rho → Option PyData}
theorem ir_list (h:PR X O e f):PIr X O tg e (fun ρ=>(f ρ).bind listD):=(pi_list h).imp fun σ H R zpat=>by
  obtain ⟨hid,H0,ρ,ow,ds,E,hf,k⟩:=zpat
  obtain ⟨d,h1,h2⟩:=bind_some hf
  rw [listD_some h2] at h1
  refine ⟨hid,H0,ρ,ow,_,E,h1,fun v H' s D=>?_⟩
  obtain ⟨a,xs,rfl,q,r⟩:=den_lst D
  exact ⟨a,rfl,⟨xs,(del_same _ _).seq q⟩,k _ H' s (good_list q r)⟩
theorem tupD_some {d:PyData} {ds:List PyData} (h:tupD d = some ds):d = .tuple ds:=by
  unfold tupD at h
  split at h
  · cases h; rfl
  · exact L2.no_ns h
theorem ir_tup (h:PR X O e f):PIr X O tg e (fun ρ=>(f ρ).bind tupD):=(pi_tup h).imp fun σ H R zpat=>by
  obtain ⟨hid,H0,ρ,ow,ds,E,hf,k⟩:=zpat
  obtain ⟨d,h1,h2⟩:=bind_some hf
  rw [tupD_some h2] at h1
  refine ⟨hid,H0,ρ,ow,_,E,h1,fun v H' s D=>?_⟩
  obtain ⟨a,xs,rfl,q,r⟩:=den_tup D
  exact ⟨a,rfl,⟨xs,(del_same _ _).tup q⟩,k _ H' s (good_tup q r)⟩
noncomputable def rng1D (ds:List PyData):Option (List PyData):=(one ds).bind fun d=>(intO d).bind fun j=>if decide (j.natAbs < 2 ^ 61) = true then some (rngL 0 j.toNat) else none
theorem nat_62 {j:Int} (h:j.natAbs < 2 ^ 61):-(2 ^ 62) ≤ j ∧ j < 2 ^ 62:=by omega
variable {a b:Expr} {fs:Rho → Option (List PyData)}
theorem rng1D_some {ds es:List PyData} (h:rng1D ds = some es):∃ j,ds = [.int j] ∧ -(2 ^ 62) ≤ j ∧ j < 2 ^ 62 ∧ es = rngL 0 j.toNat:=by
  obtain ⟨d,h1,g1⟩:=bind_some h
  obtain ⟨j,h2,g2⟩:=bind_some g1
  obtain rfl:=one_some h1
  obtain rfl:=intO_some h2
  split at g2
  · rename_i hc
    have hc':=nat_62 (of_decide_eq_true hc)
    exact ⟨j,rfl,hc'.1,hc'.2,(Option.some.inj g2).symm⟩
  · exact L2.no_ns g2
theorem iv_rng1 (hg:Gl X "range") (hm:X.mg "range" = none) (ha:PAr X O [a] fs) (hs:autoParam (starEach [a] X.env = [(false,eval a X.env)]) L2.ar._auto_1):PIv X O tg (.Call (.Name "range" p) [a] [] pos) (fun ρ=>(fs ρ).bind rng1D):=
  (pi_range1 hg hm ha hs).imp fun σ H R zpat=>by
    obtain ⟨hid,H0,ρ,ow,ds,E,hf,k⟩:=zpat
    obtain ⟨es,h1,h2⟩:=bind_some hf
    refine L2.o_EAAA (rng1D_some h2) fun j zq1 h3 h4 zq4=>?_
    subst zq1
    subst zq4
    refine ⟨hid,H0,ρ,ow,_,E,h1,fun vs H' s D=>?_⟩
    refine L2.o_EA (one_den D) fun v zq1 D1=>?_
    subst zq1
    exact ⟨j,by rw [den_int D1],h3,h4,k _ H' s (good_rng 0 j.toNat)⟩
end
theorem GoodIt.mono {K:PySem.W.Frag} {J:It} {G G':Hp} {ds:List PyData} (h:GoodIt K J G ds) (s:Same G G'):GoodIt K J G' ds where
  go:=fun H2 i e hi=>h.go H2 i (s.trans e) hi
  yld:=fun H2 i x H3 d e hd y=>by
    rcases h.yld H2 i x H3 d (s.trans e) hd y with ⟨a,b⟩ | ⟨p,vs,es,a,b,c,d',e'⟩
    · exact .inl ⟨a,b.mono s⟩
    · exact .inr ⟨p,vs,es,a,b,c,d',e'.mono s⟩
  stop:=fun H2 e=>h.stop H2 (s.trans e)
theorem PIv.raw {X:Cx} {O:Ow} {tg e:Expr} {f:Rho → Option (List PyData)} (h:PIv X O tg e f):PIr X O tg e f:=h.imp fun σ H R ⟨hid,H0,ρ,ow,ds,E,hf,k⟩=>⟨hid,H0,ρ,ow,ds,E,hf,fun J H' s G=>k J H' s (G.mono (del_uni _ _ _))⟩
noncomputable abbrev O0:Ow:=⟨[],.cl⟩
noncomputable def compD (S:PyData → Rho → Option Rho) (ft:Rho → Option Bool) (fe:Rho → Option PyData):List PyData → Rho → Option (List PyData)
  | [],_=>some []
  | d :: r,ρ=>(S d ρ).bind fun ρ1=>(ft ρ1).bind fun c=>if c = true then (fe ρ1).bind fun y=>(compD S ft fe r ρ1).map (y :: ·) else compD S ft fe r ρ1
noncomputable def compO (S:PyData → Rho → Option Rho) (ft:Rho → Option Bool) (fe:Rho → Option PyData) (x:Option (List PyData)) (ρ:Rho):Option (List PyData):=x.bind fun ds=>if decide (ds.length ≤ 1000) = true then compD S ft fe ds ρ else none
noncomputable abbrev PIfv (X:Cx) (ifs:List Expr) (ft:Rho → Option Bool):Prop:=PIf X ifs (tT X.K O0 ft)
theorem if_nil {X:Cx}:PIfv X [] (fun _=>some true):=fun pins s σ H Q I zpat=>by
  obtain ⟨hid,H0,ρ,ow,b,E,hf,k⟩:=zpat
  obtain rfl:=Option.some.inj hf
  exact pif_nil pins s σ H Q I (k H (Same.refl H))
theorem if_one {X:Cx} {c:Expr} {ft:Rho → Option Bool} (h:PTv X O0 c ft):PIfv X [c] ft:=pif_one h
noncomputable def frees (k:Nat) (ix:List Nat) (ρ:Rho):Rho:=List.replicate k none ++ ix.map fun i=>(ρ[i]?).join
theorem frees_ok {K:PySem.W.Frag} {O:Ow} {hid hid':Addr → Prop} {H0 H H':Hp} {σ:St} {ρ:Rho} {ow:List Addr} (E:EnvOk K O hid H0 σ H ρ ow) (s:Same H H') (hs:Same (del H hid) (del H' hid')) (hh:∀ b,hid' b → ∃ vs,H' b = some (.lst vs)) (k:Nat) (ix:List Nat):EnvOk K O0 hid' H (stComp k ix σ) H' (frees k ix ρ) []:=by
  refine ⟨?_,fun b o e=>(by rw [del_out (by simp)]; exact s b o e),fun i d _ h=>?_,⟨fun _=>[],fun i t d h=>(by cases h),fun i j p _ h=>(by cases h),fun i p h=>(by cases h)⟩,fun l h=>(by cases h),hh,fun _=>rfl⟩
  · unfold frees stComp
    simp
  · rw [uni_nil]
    unfold frees at h
    unfold stComp
    by_cases hi:i < k
    · rw [List.getElem?_append_left (by simpa using hi),List.getElem?_replicate,if_pos hi] at h
      cases h
    · have hj:k ≤ i:=Nat.le_of_not_lt hi
      rw [List.getElem?_append_right (by simpa using hj),List.getElem?_map] at h
      rw [List.getElem?_append_right (by simpa using hj),List.getElem?_map]
      simp only [List.length_replicate] at h ⊢
      cases q:ix[i - k]? with
      | none=>rw [q] at h; cases h
      | some j=>
        rw [q] at h
        have h':(ρ[j]?).join = some d:=Option.some.inj h
        refine L2.o_EA (E.raw (join_some h')) fun v h1 h2=>?_
        exact ⟨v,by simp [h1],h2.mono hs⟩
theorem EnvOk.updHid {K:PySem.W.Frag} {O:Ow} {hid:Addr → Prop} {H0 H:Hp} {σ:St} {ρ:Rho} {ow:List Addr} (E:EnvOk K O hid H0 σ H ρ ow) {l:Addr} {ws:List V} (hl:hid l) (h0:H0 l = none):EnvOk K O hid H0 σ (upd H l (.lst ws)) ρ ow:=by
  have ed:del (upd H l (.lst ws)) (uni hid ow) = del H (uni hid ow):=del_upd (.inl hl)
  have nl:∀ l' ∈ ow,l' ≠ l:=fun l' h z=>(E.isl l' h).2 (z ▸ hl)
  refine ⟨E.len,fun b u e=>?_,fun i d hi h=>by rw [ed]; exact E.val i d hi h,?_,fun l' h=>?_,fun b hb=>?_,E.emp⟩
  · have hne:b ≠ l:=ne_of_none e h0
    have q:=E.base b u e
    by_cases hb:b ∈ ow
    · rw [del_in hb] at q; cases q
    · rw [del_out hb] at q ⊢
      rw [upd_ne hne]
      exact q
  · refine L2.o_EAA (E.own) fun A a1 a2 a3=>?_
    refine ⟨A,fun i t d hi h=>?_,a2,a3⟩
    refine L2.o_EA (a1 i t d hi h) fun v q r=>?_
    exact ⟨v,q,by rw [ed]; exact r.mono (Same.refl _) fun p hp o e=>by rw [upd_ne (nl p (a3 i p hp))]; exact e⟩
  · obtain ⟨⟨vs,q⟩,n⟩:=E.isl l' h
    exact ⟨⟨vs,by rw [upd_ne (nl l' h)]; exact q⟩,n⟩
  · by_cases hne:b = l
    · subst hne; rw [upd_same]; exact ⟨_,rfl⟩
    · rw [upd_ne hne]; exact E.ishL b hb
inductive CIv (K:PySem.W.Frag) (hid:Addr → Prop) (H H1:Hp) (D:Addr) (S:PyData → Rho → Option Rho) (ft:Rho → Option Bool) (fe:Rho → Option PyData) (ds out:List PyData) (i:Nat) (τ:St) (H2:Hp):Prop
  | mk (ρ2:Rho) (ys:List V) (done rest:List PyData) (E2:EnvOk K O0 (uni hid [D]) H τ H2 ρ2 []) (s2:Same H1 H2) (hy:H2 D = some (.lst ys)) (hd:DenL K (del H2 (uni hid [D])) ys done) (hr:compD S ft fe (ds.drop i) ρ2 = some rest) (ho:out = done ++ rest) (hl:done.length ≤ i):CIv K hid H H1 D S ft fe ds out i τ H2
theorem comp_imp {K:PySem.W.Frag} {O:Ow} {fi:Rho → Option (List PyData)} {S:PyData → Rho → Option Rho} {ft:Rho → Option Bool} {fe:Rho → Option PyData} {k:Nat} {ix:List Nat}:∀ σ H Q,tFr K O (fun ρ=>compO S ft fe (fi ρ) (frees k ix ρ)) σ H Q → tComp (tIr K O fi) (tG K O0 S) (tT K O0 ft) (tR K O0 fe) (stComp k ix) σ H Q:=fun σ H Q zpat=>by
  obtain ⟨hid,H0,ρ,ow,out,E,hf,q⟩:=zpat
  obtain ⟨ds,h1,h2⟩:=bind_some hf
  split at h2
  case isFalse=>cases h2
  rename_i hlen
  have hz:ds.length ≤ 1000:=of_decide_eq_true hlen
  have hzl:1000 < sizeLine:=by decide
  refine ⟨hid,H0,ρ,ow,ds,E,h1,fun J H1 s1 G D hD=>?_⟩
  have hDH:H D = none:=s1.free hD
  have hq:∀ b,uni hid [D] b → hid b ∨ b = D:=fun b z=>by rcases z with z | z; exact .inl z; exact .inr (by simpa using z)
  have hDh:uni hid [D] D:=.inr (by simp)
  refine ⟨fun i m τ H2=>m = ds.length - i ∧ i ≤ ds.length ∧ CIv K hid H H1 D S ft fe ds out i τ H2,
    ⟨ds.length,(Nat.sub_zero _).symm,Nat.zero_le _,.mk (frees k ix ρ) [] [] out ?_ (same_new hD) upd_same .nil h2 rfl (Nat.le_refl _)⟩,?_⟩
  · refine frees_ok E (s1.trans (same_new hD)) (del_new (s1.trans (same_new hD)) hDH hq) (fun b z=>?_) k ix
    rcases hq b z with z | z
    · refine L2.o_E (E.ishL b z) fun vs e=>?_
      exact ⟨vs,(s1.trans (same_new hD)) _ _ e⟩
    · rw [z,upd_same]
      exact ⟨_,rfl⟩
  · rintro i m τ H2 ⟨rfl,hi',⟨ρ2,ys,done,rest,E2,s2,hy,hd,hr,ho,hdl⟩⟩
    have keep:Same (del H1 hid) H2:=(del_same _ _).trans s2
    by_cases hlt:i < ds.length
    · have hdr:ds.drop i = ds[i] :: ds.drop (i + 1):=List.drop_eq_getElem_cons hlt
      rw [hdr,compD] at hr
      obtain ⟨ρ3,g1,hr⟩:=bind_some hr
      obtain ⟨c,g2,hr⟩:=bind_some hr
      refine .inr ⟨G.go H2 i keep hlt,fun τ' H'=>CIv K hid H H1 D S ft fe ds out (i + 1) τ' H',
        fun τ' H' z=>⟨ds.length - (i + 1),by (clear z g1 hdr hdl hi' hzl hz hlen; omega),rfl,hlt,z⟩,fun x H3 y=>?_⟩
      have step:∃ s23:Same H2 H3,Den K (del H3 (uni (uni hid [D]) [])) x ds[i]:=by
        rw [uni_nil]
        rcases G.yld H2 i x H3 ds[i] keep (by simp [hlt]) y with ⟨rfl,Dx⟩ | ⟨p,vs,es,hp,rfl,rfl,hde,De⟩
        · exact ⟨Same.refl _,Dx.mono (del_new s2 hD hq)⟩
        · refine ⟨same_new hp,?_⟩
          rw [hde]
          have np:¬ uni hid [D] p:=fun z=>E2.fresh hp (.inl z)
          exact .tup (SqT.of (by rw [del_out np,upd_same])) ((De.mono (del_new s2 hD hq)).mono (del_mono (same_new hp) _))
      refine L2.o_E (step) fun s23 Dx=>?_
      refine ⟨uni hid [D],H,ρ2,[],ds[i],ρ3,E2.mono s23,Dx,g1,fun τ3 E3=>⟨uni hid [D],H,ρ3,[],c,E3,g2,fun H5 s5=>?_⟩⟩
      have sA:Same H2 H5:=s23.trans s5
      cases c with
      | false=>
        dsimp only
        rw [if_neg Bool.false_ne_true] at hr ⊢
        exact CIv.mk (ρ3) (ys) (done) (rest) (E3.mono s5) (s2.trans sA) (sA _ _ hy) (hd.mono (del_mono sA _)) (hr) (ho) (Nat.le_succ_of_le hdl)
      | true=>
        dsimp only
        rw [if_pos rfl] at hr ⊢
        obtain ⟨yv,g3,hr⟩:=bind_some hr
        obtain ⟨rest2,g4,rfl⟩:=map_some hr
        refine ⟨uni hid [D],H,ρ3,[],yv,E3.mono s5,g3,fun y H6 s6 Dy=>?_⟩
        have sB:Same H2 H6:=sA.trans s6
        have hyl:ys.length = done.length:=hd.length
        refine ⟨ys,sB _ _ hy,by (clear Dx step g1 hdr hi' hlen; omega),CIv.mk (ρ3) (ys ++ [y]) (done ++ [yv]) (rest2) (((E3.mono s5).mono s6).updHid hDh hDH) (fun b o e=>?_) (upd_same) ?_ (g4) ?_ ?_⟩
        · rw [upd_ne (ne_of_none e hD)]
          exact sB b o (s2 b o e)
        · rw [del_upd hDh]
          exact (hd.mono (del_mono sB _)).append (.cons Dy .nil)
        · rw [ho,List.append_assoc]; rfl
        · rw [List.length_append,List.length_singleton]; (clear hyl Dx step g1 hdr hi' hzl hz hlen; omega)
    · have e:i = ds.length:=by (clear hdl hzl hz hlen; omega)
      subst e
      rw [List.drop_length,compD] at hr
      obtain rfl:=Option.some.inj hr
      rw [List.append_nil] at ho
      subst ho
      exact .inl ⟨G.stop H2 keep,q D ys H2 (s1.trans s2) hDH hy hd⟩
theorem fr_comp {X:Cx} {O:Ow} {elt tg iter:Expr} {ifs:List Expr} {scope:Scope} {pos:Pos} {fi:Rho → Option (List PyData)} {S:PyData → Rho → Option Rho} {ft:Rho → Option Bool} {fe:Rho → Option PyData} {k:Nat} {N:List Str} {ix:List Nat} (sc:Scope) (hsc:X.env.scope = sc) (C:CompSc sc X.N scope k N ix)
    (hx:X.xe = fun _ _=>False) (hc:X.calm = true) (hi:PIr X O tg iter fi)
    (hg:∀ cl C s3 H3 fp pins,PGv (cxComp X N scope cl C s3 H3 fp pins) O0 tg S) (ht:∀ cl C s3 H3 fp pins,PIfv (cxComp X N scope cl C s3 H3 fp pins) ifs ft) (he:∀ cl C s3 H3 fp pins,PR (cxComp X N scope cl C s3 H3 fp pins) O0 elt fe)
    (hs:∀ x,foldedSetIterable iter X.env x = pure x:=by intro _; rfl) :
    PFr X O (.ListComp elt [⟨tg,iter,ifs,0⟩] scope pos) (fun ρ=>compO S ft fe (fi ρ) (frees k ix ρ)):=by
  exact (pe_comp (g:=tG X.K O0 S) (tc:=tT X.K O0 ft) (te:=tR X.K O0 fe) sc hsc C hx hc hi hg ht he hs).imp comp_imp
inductive Out where
  | nx (ρ:Rho) | rt (d:PyData) | bk (ρ:Rho) | ct (ρ:Rho)
noncomputable def Then (K:PySem.W.Frag) (O:Ow) (hid:Addr → Prop) (H0 G:Hp) (D:Ends):Out → Prop
  | .nx ρ'=>∀ σ' H' ow',Same G (del H' (uni hid ow')) → EnvOk K O hid H0 σ' H' ρ' ow' → D.nx σ' H'
  | .bk ρ'=>∀ σ' H' ow',Same G (del H' (uni hid ow')) → EnvOk K O hid H0 σ' H' ρ' ow' → D.bk σ' H'
  | .ct ρ'=>∀ σ' H' ow',Same G (del H' (uni hid ow')) → EnvOk K O hid H0 σ' H' ρ' ow' → D.ct σ' H'
  | .rt d=>∀ v as H',Same H0 H' → (∀ p ∈ as,H0 p = none) → DenO K H' (del H' (uni hid as)) O.r v d as → D.rt v H'
noncomputable def tP (K:PySem.W.Frag) (O:Ow) (F:Rho → Option Out):TS:=fun D σ H=>At5 K O F σ H fun hid H0 ρ ow o=>Then K O hid H0 (del H (uni hid ow)) D o
noncomputable abbrev PSv (X:Cx) (O:Ow) (st:Stmt) (F:Rho → Option Out):Prop:=PS X st (tP X.K O F)
noncomputable abbrev PSsv (X:Cx) (O:Ow) (st:List Stmt) (F:Rho → Option Out):Prop:=PSs X st (tP X.K O F)
theorem Then.weak {K:PySem.W.Frag} {O:Ow} {hid:Addr → Prop} {H0 G G':Hp} {D:Ends} {o:Out} (s:Same G G') (h:Then K O hid H0 G D o):Then K O hid H0 G' D o:=by
  cases o with
  | nx ρ=>exact fun σ' H' ow' s' E=>h σ' H' ow' (s.trans s') E
  | bk ρ=>exact fun σ' H' ow' s' E=>h σ' H' ow' (s.trans s') E
  | ct ρ=>exact fun σ' H' ow' s' E=>h σ' H' ow' (s.trans s') E
  | rt d=>exact h
theorem EnvOk.baseS {K:PySem.W.Frag} {O:Ow} {hid:Addr → Prop} {H0 H:Hp} {σ:St} {ρ:Rho} {ow:List Addr} (E:EnvOk K O hid H0 σ H ρ ow):Same H0 H:=E.base.trans (del_same _ _)
noncomputable def seqF (F G:Rho → Option Out) (ρ:Rho):Option Out:=(F ρ).bind fun o=>match o with
  | .nx ρ'=>G ρ'
  | .rt d=>some (.rt d)
  | .bk ρ'=>some (.bk ρ')
  | .ct ρ'=>some (.ct ρ')
noncomputable def forD (S:PyData → Rho → Option Rho) (F:Rho → Option Out):List PyData → Rho → Option Out
  | [],ρ=>some (.nx ρ)
  | d :: r,ρ=>(S d ρ).bind fun ρ1=>(F ρ1).bind fun o=>match o with
    | .nx ρ2=>forD S F r ρ2
    | .ct ρ2=>forD S F r ρ2
    | .bk ρ2=>some (.nx ρ2)
    | .rt v=>some (.rt v)
noncomputable def setO (i:Nat) (ρ:Rho) (x:Option PyData):Option Out:=x.map fun d=>.nx (ρ.set i (some d))
noncomputable def setLO (i:Nat) (ρ:Rho) (x:Option (List PyData)):Option Out:=x.map fun ds=>.nx (ρ.set i (some (.list ds)))
noncomputable def forO (S:PyData → Rho → Option Rho) (F:Rho → Option Out) (x:Option (List PyData)) (ρ:Rho):Option Out:=x.bind fun ds=>forD S F ds ρ
noncomputable def whileD (t:Rho → Option Bool) (F:Rho → Option Out):Nat → Rho → Option Out
  | 0,_=>none
  | n + 1,ρ=>(t ρ).bind fun c=>if c = true then (F ρ).bind fun o=>match o with
    | .nx ρ2=>whileD t F n ρ2
    | .ct ρ2=>whileD t F n ρ2
    | .bk ρ2=>some (.nx ρ2)
    | .rt v=>some (.rt v) else some (.nx ρ)
section
variable {X:Cx} {O:Ow} {st:Stmt} {rest:List Stmt} {F G:Rho → Option Out} {e:Expr} {f:Rho → Option PyData} {pos:Pos}
theorem ss_nil:PSsv X O [] (fun ρ=>some (.nx ρ)):=pss_nil.imp fun D σ H zpat=>by
  obtain ⟨hid,H0,ρ,ow,o,E,hf,k⟩:=zpat
  obtain rfl:=Option.some.inj hf
  exact k σ H ow (Same.refl _) E
theorem ss_cons (h1:PSv X O st F) (h2:PSsv X O rest G):PSsv X O (st :: rest) (seqF F G):=(pss_cons h1 h2).imp fun D σ H zpat=>by
  obtain ⟨hid,H0,ρ,ow,o,E,hf,k⟩:=zpat
  obtain ⟨o1,g1,g2⟩:=bind_some hf
  refine ⟨hid,H0,ρ,ow,o1,E,g1,?_⟩
  cases o1 with
  | nx ρ1=>exact fun σ' H' ow' s' E'=>⟨hid,H0,ρ1,ow',o,E',g2,by cases o <;> exact k.weak s'⟩
  | rt d=>cases g2; exact k
  | bk ρ1=>cases g2; exact k
  | ct ρ1=>cases g2; exact k
theorem ss_one (h1:PSv X O st F):PSsv X O [st] F:=pss_one h1
theorem s_never:PSv X O st (fun _=>none):=ps_never.imp fun D σ H ⟨hid,H0,ρ,ow,o,E,hf,k⟩=>by cases hf
theorem s_ret (h:PR X O e f) (hr:autoParam (O.r = .cl) L2.ar._auto_1):PSv X O (.Return (some e) pos) (fun ρ=>(f ρ).map .rt):=(ps_ret h).imp fun D σ H zpat=>by
  obtain ⟨hid,H0,ρ,ow,o,E,hf,k⟩:=zpat
  obtain ⟨d,g1,rfl⟩:=map_some hf
  exact ⟨hid,H0,ρ,ow,d,E,g1,fun v H' s Dv=>k v [] H' (E.baseS.trans s) (fun p hp=>by cases hp) (by rw [hr,uni_nil]; exact .cl Dv)⟩
theorem s_retO {U:List Nat} (h:PRt X O U O.r e f):PSv X O (.Return (some e) pos) (fun ρ=>(f ρ).map .rt):=(ps_ret h).imp fun D σ H zpat=>by
  obtain ⟨hid,H0,ρ,ow,o,E,hf,k⟩:=zpat
  obtain ⟨d,g1,rfl⟩:=map_some hf
  refine L2.o_E (E.own) fun A EA=>?_
  refine L2.i_EEEEEEAAA (hid) (H0) (ρ) (ow) (d) (A) (E) (EA) (g1) (fun v as H' s n Dv=>k v as H' (E.baseS.trans s) (fun p hp=>?_) (Dv.mono (del_sub (uni_mono fun p hp=>List.mem_append_left _ hp)) fun p _ o e=>e))
  rcases n p hp with z | ⟨i,_,z⟩
  · exact E.baseS.free z
  · exact E.ow0 (EA.2.2 i p z)
theorem s_if {c:Expr} {a b:List Stmt} {ft:Rho → Option Bool} (hc:PTv X O c ft) (ha:PSsv X O a F) (hb:PSsv X O b G):PSv X O (.If c a b pos) (fun ρ=>condO (ft ρ) (F ρ) (G ρ)):=(ps_if hc ha hb).imp fun D σ H zpat=>by
  obtain ⟨hid,H0,ρ,ow,o,E,hf,k⟩:=zpat
  obtain ⟨c,g1,g2⟩:=bind_some hf
  refine ⟨hid,H0,ρ,ow,c,E,g1,fun H' s=>?_⟩
  cases c with
  | true=>rw [if_pos rfl] at g2 ⊢; exact ⟨hid,H0,ρ,ow,o,E.mono s,g2,k.weak (del_mono s _)⟩
  | false=>rw [if_neg Bool.false_ne_true] at g2 ⊢; exact ⟨hid,H0,ρ,ow,o,E.mono s,g2,k.weak (del_mono s _)⟩
theorem s_set {i:Nat} {x:Str} {pos':Pos} (hN:X.N.Nodup) (hi:X.N[i]? = some x) (hx:Loc X.env.scope x) (he:PV X O e f) (hO:autoParam (O.s.lookup i = none) L2.ar._auto_1) (hs:autoParam (swapsWith e (some (.Name x pos')) pos.line X.env = pure false) L2.ar._auto_1) (hf:X.fn x = true ∨ X.env.scope.names.lookup x = some .local:=by first | exact .inl rfl | exact .inr rfl | assumption) :
    PSv X O (.Assign [.Name x pos'] e pos) (fun ρ=>setO i ρ (f ρ)):=(ps_set hN hi hx he hs hf).imp fun D σ H zpat=>by
  obtain ⟨hid,H0,ρ,ow,o,E,hf,k⟩:=zpat
  obtain ⟨d,g1,rfl⟩:=map_some hf
  exact ⟨hid,H0,ρ,ow,d,E,g1,fun v H' s Dv=>k _ H' ow (del_mono s _) ((E.mono s).set hO Dv)⟩
theorem s_setT {i:Nat} {x:Str} {pos':Pos} {T:Ty} (hN:X.N.Nodup) (hi:X.N[i]? = some x) (hx:Loc X.env.scope x) (he:PFt X O T e f) (hO:autoParam (O.s.lookup i = some T) L2.ar._auto_1) (hs:autoParam (swapsWith e (some (.Name x pos')) pos.line X.env = pure false) L2.ar._auto_1) (hf:X.fn x = true ∨ X.env.scope.names.lookup x = some .local:=by first | exact .inl rfl | exact .inr rfl | assumption) :
    PSv X O (.Assign [.Name x pos'] e pos) (fun ρ=>setO i ρ (f ρ)):=(ps_set hN hi hx he hs hf).imp fun D σ H zpat=>by
  obtain ⟨hid,H0,ρ,ow,o,E,hf,k⟩:=zpat
  obtain ⟨d,g1,rfl⟩:=map_some hf
  refine ⟨hid,H0,ρ,ow,d,E,g1,fun v as H' s n Dv=>k _ H' (as ++ ow) ?_ (E.setT s hO n Dv)⟩
  intro b u z
  by_cases hb:uni hid ow b
  · rw [del_in hb] at z; cases z
  · rw [del_out hb] at z
    rw [del_out fun y=>?_]
    · exact s b u z
    · rcases y with y | y
      · exact hb (.inl y)
      · rcases List.mem_append.mp y with y | y
        · rw [n b y] at z; cases z
        · exact hb (.inr y)
theorem s_setO {i:Nat} {x:Str} {pos':Pos} {f:Rho → Option (List PyData)} (hN:X.N.Nodup) (hi:X.N[i]? = some x) (hx:Loc X.env.scope x) (he:PFc X O e f) (hO:autoParam (O.s.lookup i = some (.lst .cl)) L2.ar._auto_1) (hs:autoParam (swapsWith e (some (.Name x pos')) pos.line X.env = pure false) L2.ar._auto_1) (hf:X.fn x = true ∨ X.env.scope.names.lookup x = some .local:=by first | exact .inl rfl | exact .inr rfl | assumption) :
    PSv X O (.Assign [.Name x pos'] e pos) (fun ρ=>setLO i ρ (f ρ)):=(s_setT hN hi hx he.ft hO hs hf).imp fun D σ H zpat=>by
  obtain ⟨hid,H0,ρ,ow,o,E,hf,k⟩:=zpat
  refine ⟨hid,H0,ρ,ow,o,E,?_,k⟩
  obtain ⟨d,g1,rfl⟩:=map_some hf
  show setO i ρ ((f ρ).map .list) = _
  rw [g1]
  rfl
theorem s_for {tg iter:Expr} {body:List Stmt} {fi:Rho → Option (List PyData)} {S:PyData → Rho → Option Rho} (hc:X.calm = true) (hi:PIv X O tg iter fi) (hg:PGv X O tg S) (hb:PSsv X O body F) (hp:PassesOwn (model X.prog X.w) X.A X.env X.xe)
    (hs:∀ x,foldedSetIterable iter X.env x = pure x:=by intro _; rfl):PSv X O (.For tg iter body [] pos) (fun ρ=>forO S F (fi ρ) ρ):=(ps_for hp hc hi hg hb hs).imp fun D σ H zpat=>by
  obtain ⟨hid,H0,ρ,ow,out,E,hf,k⟩:=zpat
  obtain ⟨ds,g1,g2⟩:=bind_some hf
  refine ⟨hid,H0,ρ,ow,ds,E,g1,fun J H1 s1 Gd=>?_⟩
  have k1:=k.weak (del_mono s1 (uni hid ow))
  refine ⟨fun i m τ H2=>m = ds.length - i ∧ i ≤ ds.length ∧ ∃ ρ2 ow2,EnvOk X.K O hid H0 τ H2 ρ2 ow2 ∧ Same (del H1 (uni hid ow)) (del H2 (uni hid ow2)) ∧ forD S F (ds.drop i) ρ2 = some out,⟨ds.length,by simp,Nat.zero_le _,ρ,ow,E.mono s1,Same.refl _,by simpa using g2⟩,?_⟩
  rintro i m τ H2 ⟨rfl,hi',ρ2,ow2,E2,s2,hr⟩
  have keep:Same (del H1 (uni hid ow)) H2:=s2.trans (del_same _ _)
  by_cases hlt:i < ds.length
  · have hdr:ds.drop i = ds[i] :: ds.drop (i + 1):=List.drop_eq_getElem_cons hlt
    rw [hdr,forD] at hr
    obtain ⟨ρ3,g3,hr⟩:=bind_some hr
    obtain ⟨o3,g4,hr⟩:=bind_some hr
    refine .inr ⟨Gd.go H2 i keep hlt,fun τ' H'=>∃ ρ2 ow2,EnvOk X.K O hid H0 τ' H' ρ2 ow2 ∧ Same (del H1 (uni hid ow)) (del H' (uni hid ow2)) ∧ forD S F (ds.drop (i + 1)) ρ2 = some out,fun τ' H' z=>⟨ds.length - (i + 1),by (clear g3 hdr hi'; omega),rfl,hlt,z⟩,fun x H3 y=>?_⟩
    have step:∃ s23:Same H2 H3,Den X.K (del H3 (uni hid ow2)) x ds[i]:=by
      rcases Gd.yld H2 i x H3 ds[i] keep (by simp [hlt]) y with ⟨rfl,Dx⟩ | ⟨p,vs,es,hp,rfl,rfl,hde,De⟩
      · exact ⟨Same.refl _,Dx.mono s2⟩
      · refine ⟨same_new hp,?_⟩
        rw [hde]
        exact .tup (SqT.of (E2.newAt hp)) ((De.mono s2).mono (del_mono (same_new hp) _))
    refine L2.o_E (step) fun s23 Dx=>?_
    refine ⟨hid,H0,ρ2,ow2,ds[i],ρ3,E2.mono s23,Dx,g3,fun τ3 E3=>⟨hid,H0,ρ3,ow2,o3,E3,g4,?_⟩⟩
    have s13:Same (del H1 (uni hid ow)) (del H3 (uni hid ow2)):=s2.trans (del_mono s23 _)
    cases o3 with
    | nx ρ4=>exact fun σ' H' ow' s' E'=>⟨ρ4,ow',E',s13.trans s',hr⟩
    | ct ρ4=>exact fun σ' H' ow' s' E'=>⟨ρ4,ow',E',s13.trans s',hr⟩
    | bk ρ4=>
      obtain rfl:=Option.some.inj hr
      exact fun σ' H' ow' s' E'=>k1 σ' H' ow' (s13.trans s') E'
    | rt d=>
      obtain rfl:=Option.some.inj hr
      exact k1
  · have e:i = ds.length:=by omega
    subst e
    rw [List.drop_length,forD] at hr
    obtain rfl:=Option.some.inj hr
    exact .inl ⟨Gd.stop H2 keep,k1 τ H2 ow2 s2 E2⟩
theorem s_while {c:Expr} {body:List Stmt} {ft:Rho → Option Bool} (μ:Rho → Nat) (hc:PTv X O c ft) (hb:PSsv X O body F) (hp:PassesOwn (model X.prog X.w) X.A X.env X.xe):PSv X O (.While c body [] pos) (fun ρ=>whileD ft F (μ ρ) ρ):=(ps_while hp hc hb).imp fun D σ H zpat=>by
  obtain ⟨hid,H0,ρ,ow,out,E,hf,k⟩:=zpat
  refine ⟨fun m τ H2=>∃ ρ2 ow2,EnvOk X.K O hid H0 τ H2 ρ2 ow2 ∧ Same (del H (uni hid ow)) (del H2 (uni hid ow2)) ∧ whileD ft F m ρ2 = some out,⟨_,ρ,ow,E,Same.refl _,hf⟩,?_⟩
  rintro m τ H2 ⟨ρ2,ow2,E2,s2,hr⟩
  cases m with
  | zero=>exact L2.no_ns hr
  | succ m=>
    rw [whileD] at hr
    obtain ⟨b,g1,hr⟩:=bind_some hr
    refine ⟨hid,H0,ρ2,ow2,b,E2,g1,fun H3 s3=>?_⟩
    have s13:Same (del H (uni hid ow)) (del H3 (uni hid ow2)):=s2.trans (del_mono s3 _)
    cases b with
    | false=>
      dsimp only
      rw [if_neg Bool.false_ne_true] at hr ⊢
      obtain rfl:=Option.some.inj hr
      exact k τ H3 ow2 s13 (E2.mono s3)
    | true=>
      dsimp only
      rw [if_pos rfl] at hr ⊢
      obtain ⟨o3,g4,hr⟩:=bind_some hr
      refine ⟨fun τ' H'=>∃ ρ2 ow2,EnvOk X.K O hid H0 τ' H' ρ2 ow2 ∧ Same (del H (uni hid ow)) (del H' (uni hid ow2)) ∧ whileD ft F m ρ2 = some out,fun τ' H' z=>⟨m,Nat.lt_succ_self m,z⟩,hid,H0,ρ2,ow2,o3,E2.mono s3,g4,?_⟩
      cases o3 with
      | nx ρ4=>exact fun σ' H' ow' s' E'=>⟨ρ4,ow',E',s13.trans s',hr⟩
      | ct ρ4=>exact fun σ' H' ow' s' E'=>⟨ρ4,ow',E',s13.trans s',hr⟩
      | bk ρ4=>
        obtain rfl:=Option.some.inj hr
        exact fun σ' H' ow' s' E'=>k σ' H' ow' (s13.trans s') E'
      | rt d=>
        obtain rfl:=Option.some.inj hr
        exact k
noncomputable def tAt (K:PySem.W.Frag) (O:Ow) (i:Nat) (T:Ty) (fp:Rho → Option (List Int)):TE:=fun σ H Q=>∃ hid H0 ρ ow d path ds,EnvOk K O hid H0 σ H ρ ow ∧ ρ[i]? = some (some d) ∧ fp ρ = some path ∧ tyP T d path = true ∧ getP d path = some ds ∧
  ∀ H1 l vs,Same H H1 → H1 l = some (.lst vs) → DenL K (del H1 (uni hid ow)) vs ds → l ∈ ow →
    (∀ H2,Same H1 H2 → ∀ ws es,DenL K (del H2 (uni hid ow)) ws es → EnvOk K O hid H0 σ (upd H2 l (.lst ws)) (ρ.set i (some (setP d path es))) ow) → Q (.ref l) H1
noncomputable abbrev PAt (X:Cx) (O:Ow) (i:Nat) (T:Ty) (e:Expr) (fp:Rho → Option (List Int)):Prop:=PE X e (tAt X.K O i T fp)
theorem at_name {i:Nat} (h:PE X e (tVar i)) (hi:autoParam (O.s.lookup i = some (.lst .cl)) L2.ar._auto_1):PAt X O i (.lst .cl) e (fun _=>some []):=h.imp fun σ H Q zpat=>by
  refine L2.o_EEEEEEEAAAAA (zpat) fun hid H0 ρ ow d path ds E hρ hp ht hg k=>?_
  obtain rfl:=Option.some.inj hp
  obtain rfl:=getP_nil hg
  refine L2.o_EEAAAA (E.at0 hi hρ) fun l vs h1 h3 h4 h5 h6=>?_
  exact ⟨.ref l,h1,k H l vs (Same.refl H) h3 h4 h5 h6⟩
noncomputable def path1 (x:Option PyData):Option (List Int):=(x.bind intO).map fun k=>[k]
theorem at_ix {i:Nat} {T:Ty} {x b:Expr} {fb:Rho → Option PyData} {p:Pos} (h:PE X x (tVar i)) (hb:PR X O b fb) (hi:autoParam (O.s.lookup i = some T) L2.ar._auto_1) (hs:PlainIx b:=by intro _ _; rfl):PAt X O i T (.Subscript x b p) (fun ρ=>path1 (fb ρ)):=(pe_ix (ix_list.or ix_tup) h hb hs).imp fun σ H Q zpat=>by
  refine L2.o_EEEEEEEAAAAA (zpat) fun hid H0 ρ ow d path ds E hρ hp ht hg k=>?_
  have hp':path1 (fb ρ) = some path:=hp
  obtain ⟨kk,hp1,rfl⟩:=map_some hp'
  obtain ⟨dk,hfb,hp2⟩:=bind_some hp1
  obtain rfl:=intO_some hp2
  refine L2.o_EEEAAAAA (E.at hi hρ ht hg) fun v _ _ h1 _ _ _ _ _=>?_
  refine ⟨v,h1,hid,H0,ρ,ow,.int kk,E,hfb,fun y H' s D=>?_⟩
  refine L2.o_EEEAAAAA ((E.mono s).at hi hρ ht hg) fun v' l vs g1 g2 g3 g4 g5 g6=>?_
  rw [h1] at g1
  cases g1
  have q:=k H' l vs s g3 g4 g5 g6
  rw [den_int D]
  cases g2 with
  | inL e1 e2 e3=>cases e3; exact .inl ⟨_,_,kk,_,rfl,rfl,SqL.of e1,e2,q⟩
  | inT e1 e2 e3=>cases e3; exact .inr ⟨_,_,kk,_,rfl,rfl,(del_same _ _).tup e1,e2,q⟩
noncomputable def appP (i:Nat) (T:Ty) (ρ:Rho) (path:Option (List Int)) (d:PyData):Option Out:=path.bind fun p=>((ρ[i]?).join).bind fun t=>if tyP T t p = true then (getP t p).bind fun ds=>if decide (ds.length < 1000) = true then some (.nx (ρ.set i (some (setP t p (ds ++ [d]))))) else none else none
theorem s_appendP {i:Nat} {T:Ty} {x:Expr} {fp:Rho → Option (List Int)} {apos cpos:Pos} (hx:PAt X O i T x fp) (he:PV X O e f)
    (hbase:autoParam (attributeBase x "append" X.env (eval x X.env) = eval x X.env) L2.ar._auto_1)
    (hfew:autoParam (((backTo cpos (starEach [e] X.env)).all (fun x=>!x.1) && (backToKw cpos (keywordEach [] X.env)).all (fun x=>x.1.isSome) && decide ([e].length + ([]:List Keyword).length + (if ([]:List Keyword).isEmpty then 0 else 1) < 30)) = true) L2.ar._auto_1)
    (hline:autoParam ((apos.endLine == cpos.line) = true) L2.ar._auto_1) (hst:autoParam (starEach [e] X.env = (false,eval e X.env) :: starEach [] X.env) L2.ar._auto_1) (hplain:autoParam ((backTo cpos (starEach [] X.env)).any (·.1) = false) L2.ar._auto_1)
    (hs:autoParam (swapsWith (.Call (.Attribute x "append" apos) [e] [] cpos) none pos.line X.env = pure false) L2.ar._auto_1) :
    PSv X O (.Expr (.Call (.Attribute x "append" apos) [e] [] cpos) pos) (fun ρ=>(f ρ).bind (appP i T ρ (fp ρ))):=
  (ps_expr (pe_bm PySem.F.plainAttrs_list PySem.F.slot_list_append PySem.F.type_list_append mt_append hx (pa_cons he pa_nil hst) hbase hfew hline hst hplain) hs).imp fun D σ H zpat=>by
    obtain ⟨hid,H0,ρ,ow,o,E,hf,k⟩:=zpat
    obtain ⟨d,g1,g2⟩:=bind_some hf
    obtain ⟨path,g3,g4⟩:=bind_some g2
    obtain ⟨t,g5,g6⟩:=bind_some g4
    split at g6
    case isFalse=>cases g6
    rename_i hty
    obtain ⟨ds,g7,g8⟩:=bind_some g6
    split at g8
    case isFalse=>cases g8
    rename_i hlt
    obtain rfl:=Option.some.inj g8
    refine L2.i_EEEEEEEAAAAA (hid) (H0) (ρ) (ow) (t) (path) (ds) (E) (join_some g5) (g3) (hty) (g7) (fun H1 l vs s1 hH hD hl hE=>⟨.inl ⟨rfl,vs,SqL.of hH⟩,hid,H0,ρ,ow,d,E.mono s1,g1,fun v H2 s2 Dv=>?_⟩)
    have hz:1000 < sizeLine:=by decide
    have hlt':=of_decide_eq_true hlt
    refine L2.i_EEEAAAA (l) (vs) (v) (rfl) (rfl) (s2 _ _ hH) (by rw [hD.length]; (clear g6 g4 hlt g5 hfew; omega)) (k _ _ ow ?_ (hE H2 s2 _ _ ((hD.mono (del_mono s2 _)).append (.cons Dv .nil))))
    rw [del_upd (uni_in hl)]
    exact (del_mono s1 _).trans (del_mono s2 _)
noncomputable def appD (i:Nat) (ρ:Rho) (d:PyData):Option Out:=((ρ[i]?).join.bind listD).bind fun ds=>if decide (ds.length < 1000) = true then some (.nx (ρ.set i (some (.list (ds ++ [d]))))) else none
theorem s_append {i:Nat} {x:Str} {p apos cpos:Pos} (hx:PE X (.Name x p) (tVar i)) (he:PV X O e f) (hO:autoParam (O.s.lookup i = some (.lst .cl)) L2.ar._auto_1)
    (hbase:autoParam (attributeBase (.Name x p) "append" X.env (eval (.Name x p) X.env) = eval (.Name x p) X.env) L2.ar._auto_1)
    (hfew:autoParam (((backTo cpos (starEach [e] X.env)).all (fun x=>!x.1) && (backToKw cpos (keywordEach [] X.env)).all (fun x=>x.1.isSome) && decide ([e].length + ([]:List Keyword).length + (if ([]:List Keyword).isEmpty then 0 else 1) < 30)) = true) L2.ar._auto_1)
    (hline:autoParam ((apos.endLine == cpos.line) = true) L2.ar._auto_1) (hst:autoParam (starEach [e] X.env = (false,eval e X.env) :: starEach [] X.env) L2.ar._auto_1) (hplain:autoParam ((backTo cpos (starEach [] X.env)).any (·.1) = false) L2.ar._auto_1)
    (hs:autoParam (swapsWith (.Call (.Attribute (.Name x p) "append" apos) [e] [] cpos) none pos.line X.env = pure false) L2.ar._auto_1) :
    PSv X O (.Expr (.Call (.Attribute (.Name x p) "append" apos) [e] [] cpos) pos) (fun ρ=>(f ρ).bind (appD i ρ)):=
  (s_appendP (at_name hx hO) he hbase hfew hline hst hplain hs).imp fun D σ H zpat=>by
    obtain ⟨hid,H0,ρ,ow,o,E,hf,k⟩:=zpat
    refine ⟨hid,H0,ρ,ow,o,E,?_,k⟩
    obtain ⟨d,g1,g2⟩:=bind_some hf
    obtain ⟨ds,g3,g4⟩:=bind_some g2
    obtain ⟨dl,g5,g6⟩:=bind_some g3
    rw [listD_some g6] at g5
    try dsimp only
    rw [g1,Option.bind_some]
    unfold appP
    rw [Option.bind_some,g5,Option.bind_some]
    exact g4
noncomputable def clrP (i:Nat) (T:Ty) (ρ:Rho) (path:Option (List Int)):Option Out:=path.bind fun p=>((ρ[i]?).join).bind fun t=>if tyP T t p = true then (getP t p).bind fun _=>some (.nx (ρ.set i (some (setP t p [])))) else none
end
theorem lookTy_mem:∀ {l:List (Nat × Ty)} {i:Nat} {t:Ty},l.lookup i = some t → i ∈ l.map (·.1)
  | [],_,_,h=>by cases h
  | (j,u) :: r,i,t,h=>by
    rw [List.lookup_cons] at h
    by_cases hj:(i == j) = true
    · rw [beq_iff_eq] at hj; subst hj; exact List.mem_cons_self
    · rw [Bool.not_eq_true] at hj
      rw [hj] at h
      exact List.mem_cons_of_mem _ (lookTy_mem h)
noncomputable def CdOk (K:PySem.W.Frag) (f:Addr) (cdv:Value):Prop:=∃ oc od fd osl,K.lookup f = some ⟨oc,od,.func fd,osl⟩ ∧ fd.code = cdv
theorem fn_okC {P:Program} {w:World} {K:PySem.W.Frag} {mg:Str → Option Value} {base:Heap} {x qual:Str} {st:Stmt} {f:Addr} {fd:FuncData} {N ps:List Str} {k:Nat} {sp:Sp} (F:Fun K x qual st f fd) (S:FnScope N ps (defScope st)) (len:∀ vs H Q E,sp vs H Q E → vs.length = ps.length)
    (body:∀ cdv,CdOk K f cdv → ∀ A outer s H vs Q E,Room k (A.deeper (envOfC qual (defScope st) s.heap.objs.size f cdv)) → sp vs H Q E → ∃ t,PSs (cxOf CX0 P w K mg base N qual (defScope st) f cdv A outer s H E).nox (defBody st) t ∧ t { nx:=fun _ H'=>Q .non H',rt:=Q } (start N vs) H):FnOk P w K mg base CX0 (k + 1) f fd ps sp:=by
  refine L2.o_EEEEEEEEEAA (F.ex) fun a1 a2 a3 a4 a5 a6 cdv a7 a8 e lk hc=>?_
  subst e
  exact fn_of lk hc S len fun A outer s H vs Q E hr hs=>by
    refine L2.o_EA (body cdv ⟨_,_,_,_,lk,rfl⟩ A outer s H vs Q E hr hs) fun t h1 h2=>?_
    exact ⟨t,h1.nox,h2⟩
theorem start_get {K:PySem.W.Frag} {H:Hp} {hid:Addr → Prop} {N:List Str} {vs:List V} {ds:List PyData} (D:DenL K (del H hid) vs ds) {i:Nat} {d:PyData} (e:(ds.map some ++ List.replicate (N.length - ds.length) none)[i]? = some (some d)):i < ds.length ∧ ∃ v,(start N vs)[i]? = some (some v) ∧ Den K (del H hid) v d:=by
  by_cases hi:i < ds.length
  · rw [List.getElem?_append_left (by rw [List.length_map]; exact hi),List.getElem?_map] at e
    obtain ⟨d',q,e⟩:=Option.map_eq_some_iff.mp e
    obtain rfl:=Option.some.inj e
    refine L2.o_EA (D.get q) fun v h1 h2=>?_
    refine ⟨hi,v,?_,h2⟩
    unfold start
    rw [List.getElem?_append_left (by rw [List.length_map,D.length]; exact hi),List.getElem?_map,h1]
    rfl
  · rw [List.getElem?_append_right (by rw [List.length_map]; exact Nat.le_of_not_lt hi),List.getElem?_replicate] at e
    split at e <;> cases e
theorem start_env {K:PySem.W.Frag} {O:Ow} {H:Hp} {hid:Addr → Prop} {N:List Str} {vs:List V} {ds:List PyData} {n:Nat} (D:DenL K (del H hid) vs ds) (hn:ds.length = n) (hO:∀ i ∈ O.s.map (·.1),n ≤ i) (hh:∀ b,hid b → ∃ vs,H b = some (.lst vs)):EnvOk K O hid H (start N vs) H (ds.map some ++ List.replicate (N.length - ds.length) none) []:=by
  refine ⟨by unfold start; rw [List.length_append,List.length_append,List.length_map,List.length_map,List.length_replicate,List.length_replicate,D.length],fun b o e=>by rw [del_out List.not_mem_nil]; exact e,fun i d hi e=>?_,⟨fun _=>[],fun i t d hi e=>?_,fun i j p _ z=>absurd z List.not_mem_nil,fun i p z=>absurd z List.not_mem_nil⟩,fun l z=>absurd z List.not_mem_nil,hh,fun _=>rfl⟩
  · refine L2.o_AEA (start_get D e) fun _ v h1 h2=>?_
    exact ⟨v,h1,by rw [uni_nil]; exact h2⟩
  · exact absurd (hn ▸ (start_get D e).1) (Nat.not_lt.mpr (hO i (lookTy_mem hi)))
theorem fn_pure {P:Program} {w:World} {K:PySem.W.Frag} {mg:Str → Option Value} {base:Heap} {x qual:Str} {st:Stmt} {f:Addr} {fd:FuncData} {N ps:List Str} {k:Nat} {Fs:List PyData → Option PyData} (O:Ow) (F:Fun K x qual st f fd) (S:FnScope N ps (defScope st))
    (hl:∀ ds r,Fs ds = some r → ds.length = ps.length)
    (hO:∀ i ∈ O.s.map (·.1),ps.length ≤ i) (B:Rho → Option Out)
    (hbody:∀ (cdv:Value),CdOk K f cdv → ∀ (A:Around) (outer:List Env) (s:Shared) (H:Hp) (E:XK),Room k (A.deeper (envOfC qual (defScope st) s.heap.objs.size f cdv)) →
      PSsv (cxOf CX0 P w K mg base N qual (defScope st) f cdv A outer s H E).nox O (defBody st) B)
    (hs:∀ ds r,Fs ds = some r → B (ds.map some ++ List.replicate (N.length - ds.length) none) = some (.rt r) ∨ (r = .none ∧ ∃ ρ,B (ds.map some ++ List.replicate (N.length - ds.length) none) = some (.nx ρ))) :
    FnOk P w K mg base CX0 (k + 1) f fd ps (spR K O.r Fs):=by
  refine fn_okC F S (fun vs H Q E h=>?_) (fun cdv hk A outer s H vs Q E hr h=>?_)
  · refine L2.o_EEEAAA (h) fun hid ds r _ D hf _=>?_
    rw [D.length]
    exact hl ds r hf
  · refine L2.o_EEEAAA (h) fun hid ds r hh D hf q=>?_
    refine ⟨_,hbody cdv hk A outer s H E hr,?_⟩
    have hdl:=D.length
    have hpl:=hl ds r hf
    have E0:EnvOk K O hid H (start N vs) H (ds.map some ++ List.replicate (N.length - ds.length) none) []:=start_env D hpl hO hh
    rcases hs ds r hf with h | ⟨rfl,ρ,h⟩
    · exact ⟨hid,H,_,[],_,E0,h,fun v as H' s' n Dv=>q v as H' s' n Dv⟩
    · exact ⟨hid,H,_,[],_,E0,h,fun σ' H' ow' s' E'=>q .non [] H' E'.baseS (fun p hp=>by cases hp) .non⟩
end L2
namespace L2
open PySem PySem.Spec PyProof.Rows
variable [Reg]
noncomputable def tyD:PyData → String
  | .none=>"NoneType"
  | .bool _=>"bool"
  | .int _=>"int"
  | .str _=>"str"
  | .list _=>"list"
  | .tuple _=>"tuple"
  | .dict _=>"dict"
noncomputable def subT (t T:String):Bool:=t == T || (t == "bool" && T == "int")
theorem kit_bi (K:PySem.W.Frag):∀ t ∈ ["NoneType","bool","int","str","list","tuple"],∀ T ∈ ["bool","int","str","list","tuple"],PySem.W.kitOne K (.type t) (.type T) = some (subT t T):=by
  intro t ht T hT
  simp only [List.mem_cons,List.not_mem_nil,or_false] at ht hT
  rcases ht with rfl | rfl | rfl | rfl | rfl | rfl <;> rcases hT with rfl | rfl | rfl | rfl | rfl <;> rfl
noncomputable def isD (T:String):PyData → Option PyData
  | .dict _=>none
  | d=>some (.bool (subT (tyD d) T))
theorem isD_some {T:String} {d r:PyData} (h:isD T d = some r):r = .bool (subT (tyD d) T):=by
  cases d <;> first | (cases h; rfl) | cases h
noncomputable def rIsi (K:PySem.W.Frag) (T:String):List V → Hp → VK → Prop:=fun xs H Q=>∃ x d,xs = [x,.ty T] ∧ Den K H x d ∧ isD T d ≠ none ∧ Q (.bl (subT (tyD d) T)) H
theorem call_isi {X:Cx} {T:String} (hT:T ∈ ["bool","int","str","list","tuple"]):CallR X (.builtin "isinstance") (rIsi X.K T):=by
  intro pins s σ H xs us Q I r h
  revert h
  refine fun zqq=>L2.o_EEAAA zqq fun x d zq2 D hnd q=>?_
  clear zqq
  subst zq2
  refine L2.o_EEAA (r.two) fun u c zq2 rx rc=>?_
  subst zq2
  cases (show c = Value.type T from rc)
  have fin:∀ tk,EP X pins σ Q (.bool (subT (tyD d) T)) { s with toks:=tk }:=fun tk=>⟨.bl _,H,I.tok tk,rfl,q⟩
  cases D with
  | non=>cases (show u = Value.none from rx); exact PySem.W.kia_one PySem.W.kitx_none I.kIn True.intro (kit_bi X.K "NoneType" (by simp) T hT) (fun z=>nomatch z) fin
  | bl b=>cases (show u = Value.bool b from rx); exact PySem.W.kia_one PySem.W.kitx_bool I.kIn True.intro (kit_bi X.K "bool" (by simp) T hT) (fun z=>nomatch z) fin
  | int i=>obtain ⟨t,q⟩:=(show ∃ t,u = Value.int i t from rx); cases q; exact PySem.W.kia_one PySem.W.kitx_int I.kIn True.intro (kit_bi X.K "int" (by simp) T hT) (fun z=>nomatch z) fin
  | str y=>obtain ⟨t,q⟩:=(show ∃ t,u = Value.str y t from rx); cases q; exact PySem.W.kia_one PySem.W.kitx_str I.kIn True.intro (kit_bi X.K "str" (by simp) T hT) (fun z=>nomatch z) fin
  | @lst a vs ds hq hr=>
    cases (show u = Value.ref a from rx)
    obtain ⟨its,_,⟨o,n,e,c,_⟩,_⟩:=I.list hq
    exact PySem.W.kia_one PySem.W.kitx_list I.kIn ⟨o,e,c⟩ (kit_bi X.K "list" (by simp) T hT) (fun z=>nomatch z) fin
  | fn _ _=>exact absurd rfl hnd
  | exc _ _=>exact absurd rfl hnd
  | obj _ _=>exact absurd rfl hnd
  | @tup a vs ds hq hr=>
    cases (show u = Value.ref a from rx)
    obtain ⟨its,_,⟨o,e,c,_⟩,_⟩:=I.tuple hq
    exact PySem.W.kia_one PySem.W.kitx_tuple I.kIn ⟨o,e,c⟩ (kit_bi X.K "tuple" (by simp) T hT) (fun z=>nomatch z) fin
theorem v_isi {X:Cx} {O:Ow} {e:Expr} {f:Rho → Option PyData} {p p2 pos:Pos} {T:Str} (Ts:String) (he:PR X O e f) (hT:Ts ∈ ["bool","int","str","list","tuple"]) (hg:Gl X "isinstance") (hm:X.mg "isinstance" = none) (hgT:Gl X T) (hmT:X.mg T = none) (hvT:bootBuiltins T = some (.type Ts))
    (hn:autoParam (T ≠ "__name__") L2.ad._auto_1) (hd:autoParam ((T == ("__debug__":Str)) = false) L2.ad._auto_1) (h1:autoParam (starEach [e,.Name T p2] X.env = (false,eval e X.env) :: starEach [.Name T p2] X.env) L2.ar._auto_1) (h2:autoParam (starEach [.Name T p2] X.env = (false,eval (.Name T p2) X.env) :: starEach [] X.env) L2.ar._auto_1)
    (hpl:autoParam ((backTo pos (starEach [.Name T p2] X.env)).any (·.1) = false) L2.ar._auto_1):PV X O (.Call (.Name "isinstance" p) [e,.Name T p2] [] pos) (fun ρ=>(f ρ).bind (isD Ts)):=
  (pe_callB (call_isi hT) hg hm PyProof.Rows.boot_isinstance (pa_cons he (pa_cons (pe_bltn (v:=.ty Ts) hgT hmT hvT rfl hn hd) pa_nil h2) h1) (by decide) (by decide) h1 hpl).imp fun σ H Q zpat=>by
    obtain ⟨hid,H0,ρ,ow,r,E,hf,k⟩:=zpat
    obtain ⟨d,g1,g2⟩:=bind_some hf
    refine ⟨hid,H0,ρ,ow,d,E,g1,fun v H' s D=>⟨v,d,rfl,D.mono (del_same _ _),(fun z=>by rw [z] at g2; cases g2),?_⟩⟩
    have:=isD_some g2
    subst this
    exact k _ H' s (.bl _)
noncomputable def enumL (ds:List PyData):List PyData:=(List.range ds.length).zipWith (fun i d=>.tuple [.int (i:Nat),d]) ds
theorem enumL_get {ds:List PyData} {i:Nat} {d:PyData} (h:(enumL ds)[i]? = some d):∃ e,ds[i]? = some e ∧ d = .tuple [.int (i:Nat),e]:=by
  unfold enumL at h
  rw [List.getElem?_zipWith] at h
  cases q:ds[i]? with
  | none=>rw [q] at h; cases z:(List.range ds.length)[i]? <;> rw [z] at h <;> cases h
  | some e=>
    have hl:=(List.getElem?_eq_some_iff.mp q).1
    rw [q,List.getElem?_range hl] at h
    exact ⟨e,rfl,(Option.some.inj h).symm⟩
theorem enumL_len (ds:List PyData):(enumL ds).length = ds.length:=by simp [enumL]
end L2
namespace L2
open PySem PySem.Spec PyProof.Rows
variable [Reg]
section
variable {X:Cx} {O:Ow} {i:Nat} {x:Str} {pos' spos:Pos} {elt tg iter:Expr} {ifs:List Expr} {scope:Scope} {pos:Pos} {fi:Rho → Option (List PyData)} {S:PyData → Rho → Option Rho} {ft:Rho → Option Bool} {fe:Rho → Option PyData} {k:Nat} {N:List Str} {ix:List Nat}
theorem s_asgT {st:Stmt} {T:Ty} {f:Rho → Option PyData} (h:PS X st (tAsg (tFt X.K O T f) (gName i))) (hO:O.s.lookup i = some T ∨ (O.s.lookup i = none ∧ T = .cl)):PSv X O st (fun ρ=>setO i ρ (f ρ)):=h.imp fun D σ H zpat=>by
  obtain ⟨hid,H0,ρ,ow,o,E,hf,k⟩:=zpat
  obtain ⟨d,g1,rfl⟩:=map_some hf
  rcases hO with hO | ⟨hO,rfl⟩
  · refine ⟨hid,H0,ρ,ow,d,E,g1,fun v as H' s n Dv=>k _ H' (as ++ ow) ?_ (E.setT s hO n Dv)⟩
    intro b u z
    by_cases hb:uni hid ow b
    · rw [del_in hb] at z; cases z
    · rw [del_out hb] at z
      rw [del_out fun y=>?_]
      · exact s b u z
      · rcases y with y | y
        · exact hb (.inl y)
        · rcases List.mem_append.mp y with y | y
          · rw [n b y] at z; cases z
          · exact hb (.inr y)
  · refine ⟨hid,H0,ρ,ow,d,E,g1,fun v as H' s n Dv=>k _ H' ow (del_mono s _) ((E.mono s).set hO (Dv.den.mono (del_sub (uni_mono fun p hp=>List.mem_append_right _ hp))))⟩
theorem tFr_fc {K:PySem.W.Frag} {f:Rho → Option (List PyData)}:∀ σ H Q,tFt K O .cl (fun ρ=>((f ρ).filter lf.go).map .list) σ H Q → tFr K O f σ H Q:=fun σ H Q zpat=>by
  obtain ⟨hid,H0,ρ,ow,d,E,hf,k⟩:=zpat
  obtain ⟨ds,h1,rfl⟩:=map_some hf
  refine L2.o_A (Option.filter_eq_some_iff.mp h1) fun h1 h2=>?_
  refine ⟨hid,H0,ρ,ow,ds,E,h1,fun l vs H' s n q D=>k (.ref l) [] H' s (fun p hp=>by cases hp) (.cl ?_)⟩
  rw [List.nil_append]
  refine .lst (SqL.of (by rw [del_out fun z=>E.fresh n z]; exact q)) ((D.mono (del_uni _ _ _)).clean (fun l2 h2=>(E.mono s).lists l2 h2) h2)
theorem s_setCV (hN:X.N.Nodup) (hi':X.N[i]? = some x) (hx':Loc X.env.scope x) (sc:Scope) (hsc:X.env.scope = sc) (C:CompSc sc X.N scope k N ix)
    (hx:X.xe = fun _ _=>False) (hc:X.calm = true) (hi:PIr X O tg iter fi)
    (hg:∀ cl C s3 H3 fp pins,PGv (cxComp X N scope cl C s3 H3 fp pins) O0 tg S) (ht:∀ cl C s3 H3 fp pins,PIfv (cxComp X N scope cl C s3 H3 fp pins) ifs ft) (he:∀ cl C s3 H3 fp pins,PR (cxComp X N scope cl C s3 H3 fp pins) O0 elt fe) (hO:autoParam (O.s.lookup i = none) L2.ar._auto_1)
    (hsw:autoParam (swapsWith (.ListComp elt [⟨tg,iter,ifs,0⟩] scope pos) (some (.Name x pos')) spos.line X.env = pure true) L2.ar._auto_1) (hf:X.fn x = true ∨ X.env.scope.names.lookup x = some .local:=by first | exact .inl rfl | exact .inr rfl | assumption)
    (hs:∀ x,foldedSetIterable iter X.env x = pure x:=by intro _; rfl):PSv X O (.Assign [.Name x pos'] (.ListComp elt [⟨tg,iter,ifs,0⟩] scope pos) spos) (fun ρ=>setO i ρ (((compO S ft fe (fi ρ) (frees k ix ρ)).filter lf.go).map .list)):=
  s_asgT ((ps_setC (g:=tG X.K O0 S) (tc:=tT X.K O0 ft) (te:=tR X.K O0 fe) hN hi' hx' sc hsc C hx hc hi hg ht he hsw hf hs).imp fun D σ H h=>comp_imp σ H _ (tFr_fc σ H _ h)) (.inr ⟨hO,rfl⟩)
end
section
variable {X:Cx} {O:Ow} {i:Nat} {e a:Expr} {f fa:Rho → Option PyData} {pos p:Pos}
theorem s_clear {T:Ty} {x:Expr} {fp:Rho → Option (List Int)} {apos cpos:Pos} (hx:PAt X O i T x fp)
    (hbase:autoParam (attributeBase x "clear" X.env (eval x X.env) = eval x X.env) L2.ar._auto_1) (hline:autoParam ((apos.endLine == cpos.line) = true) L2.ar._auto_1)
    (hs:autoParam (swapsWith (.Call (.Attribute x "clear" apos) [] [] cpos) none pos.line X.env = pure false) L2.ar._auto_1) :
    PSv X O (.Expr (.Call (.Attribute x "clear" apos) [] [] cpos) pos) (fun ρ=>clrP i T ρ (fp ρ)):=
  (ps_expr (pe_bm0 PySem.F.plainAttrs_list PySem.F.slot_list_clear PySem.F.type_list_clear mt_clear hx hbase hline) hs).imp fun D σ H zpat=>by
    obtain ⟨hid,H0,ρ,ow,o,E,hf,k⟩:=zpat
    obtain ⟨path,g3,g4⟩:=bind_some hf
    obtain ⟨t,g5,g6⟩:=bind_some g4
    split at g6
    case isFalse=>cases g6
    rename_i hty
    obtain ⟨ds,g7,g8⟩:=bind_some g6
    obtain rfl:=Option.some.inj g8
    refine L2.i_EEEEEEEAAAAA (hid) (H0) (ρ) (ow) (t) (path) (ds) (E) (join_some g5) (g3) (hty) (g7) (fun H1 l vs s1 hH hD hl hE=>⟨.inl ⟨rfl,vs,SqL.of hH⟩,l,vs,rfl,rfl,hH,k _ _ ow ?_ (hE H1 (Same.refl _) [] [] .nil)⟩)
    rw [del_upd (uni_in hl)]
    exact del_mono s1 _
noncomputable def tO (K:PySem.W.Frag) (O:Ow) (f:Rho → Option (Option Int)):TO:=fun σ H Q=>At5 K O f σ H fun hid H0 ρ ow o=>∀ H',Same H H' → Q o H'
noncomputable abbrev POv (X:Cx) (O:Ow) (e:Option Expr) (f:Rho → Option (Option Int)):Prop:=PO X e (tO X.K O f)
noncomputable def intsO:List PyData → Option (List Int)
  | []=>some []
  | .int i :: r=>(intsO r).map (i :: ·)
  | _ :: _=>none
theorem intsO_map:∀ (ns:List Int),intsO (ns.map .int) = some ns
  | []=>rfl
  | n :: r=>by rw [List.map_cons,intsO,intsO_map r]; rfl
theorem intsO_some:∀ {ds:List PyData} {ns:List Int},intsO ds = some ns → ds = ns.map .int
  | [],ns,h=>by cases h; rfl
  | d :: r,ns,h=>by
    cases d with
    | int i=>
      rw [intsO] at h
      obtain ⟨ms,h1,rfl⟩:=map_some h
      rw [List.map_cons,← intsO_some h1]
    | _=>exact L2.no_ns h
theorem DenL.isInts {K:PySem.W.Frag} {H:Hp}:∀ {vs:List V} {ns:List Int},DenL K H vs (ns.map .int) → vs = ns.map .int
  | _,[],h=>denl_nil h
  | vs,n :: r,h=>by
    refine L2.o_EEAA (denl_cons h) fun v ws zq2 h1 h2=>?_
    subst zq2
    rw [den_int h1,DenL.isInts h2]
    rfl
theorem DenL.rev {K:PySem.W.Frag} {H:Hp}:∀ {vs:List V} {ds:List PyData},DenL K H vs ds → DenL K H vs.reverse ds.reverse
  | _,_,.nil=>.nil
  | _,_,.cons h r=>by
    rw [List.reverse_cons,List.reverse_cons]
    exact (DenL.rev r).append (.cons h .nil)
theorem vals_rev:∀ {vs:List V} {us:List Value},Vals vs us → Vals vs.reverse us.reverse:=fun r=>r.reverse
noncomputable def revD:PyData → Option (List PyData)
  | .list ds=>some ds.reverse
  | _=>none
noncomputable def isntNoneD (d e:PyData):Option PyData:=match e with
  | .none=>some (.bool (match d with | .none=>false | _=>true))
  | _=>none
theorem op_isnt:OpR X (compareOp .IsNot) (fun x y H Q=>∃ d,Den X.K H x d ∧ y = .non ∧ Q (.bl (match d with | .none=>false | _=>true)) H):=by
  intro pins s σ H x y v u Q I rx ry h
  revert h
  refine fun zqq=>L2.o_EAA zqq fun d D zq2 q=>?_
  clear zqq
  subst zq2
  cases ry
  cases D with
  | non=>cases rx; exact wpAny_isNot_self rfl ⟨.bl _,H,I,rfl,q⟩
  | bl b=>cases rx; exact wpAny_isNot_other rfl (fun z=>by cases z) ⟨.bl _,H,I,rfl,q⟩
  | int i=>obtain ⟨t,rfl⟩:=rx; exact wpAny_isNot_other rfl (fun z=>by cases z) ⟨.bl _,H,I,rfl,q⟩
  | str i=>obtain ⟨t,rfl⟩:=rx; exact wpAny_isNot_other rfl (fun z=>by cases z) ⟨.bl _,H,I,rfl,q⟩
  | tup _ _=>cases rx; exact wpAny_isNot_other rfl (fun z=>by cases z) ⟨.bl _,H,I,rfl,q⟩
  | lst _ _=>cases rx; exact wpAny_isNot_other rfl (fun z=>by cases z) ⟨.bl _,H,I,rfl,q⟩
  | fn _ _=>cases rx; exact wpAny_isNot_other rfl (fun z=>by cases z) ⟨.bl _,H,I,rfl,q⟩
  | exc _ _=>cases rx; exact wpAny_isNot_other rfl (fun z=>by cases z) ⟨.bl _,H,I,rfl,q⟩
  | obj _ _=>cases rx; exact wpAny_isNot_other rfl (fun z=>by cases z) ⟨.bl _,H,I,rfl,q⟩
theorem den_non {K:PySem.W.Frag} {H:Hp} {v:V} (h:Den K H v .none):v = .non:=by cases h; rfl
theorem c_isnt:CmpD X .IsNot isntNoneD:=⟨_,op_isnt,fun x y H d e r Q D1 D2 q k=>by
  unfold isntNoneD at q
  split at q
  · cases q; exact ⟨d,D1,den_non D2,k _ (.bl _)⟩
  · cases q⟩
end
end L2
namespace L2
open PySem PySem.Spec PyProof.Rows
variable [Reg]
theorem bt_len:bootBuiltins "len" = some (.builtin "len"):=by decide +kernel
theorem bt_min:bootBuiltins "min" = some (.builtin "min"):=by decide +kernel
theorem bt_int:bootBuiltins "int" = some (.type "int"):=by decide +kernel
theorem bt_bool:bootBuiltins "bool" = some (.type "bool"):=by decide +kernel
theorem bt_list:bootBuiltins "list" = some (.type "list"):=by decide +kernel
theorem bt_tuple:bootBuiltins "tuple" = some (.type "tuple"):=by decide +kernel
noncomputable def outD:Option Out → Option PyData
  | some (.rt r)=>some r
  | some (.nx _)=>some .none
  | _=>none
noncomputable def runD (n m:Nat) (B:Rho → Option Out) (ds:List PyData):Option PyData:=if ds.length = n then outD (B (ds.map some ++ List.replicate m none)) else none
theorem runD_some {n m:Nat} {B:Rho → Option Out} {ds:List PyData} {r:PyData} (h:runD n m B ds = some r):ds.length = n ∧ outD (B (ds.map some ++ List.replicate m none)) = some r:=by
  unfold runD at h
  split at h
  · exact ⟨by assumption,h⟩
  · exact L2.no_ns h
theorem fn_auto {P:Program} {w:World} {K:PySem.W.Frag} {mg:Str → Option Value} {base:Heap} {x qual:Str} {st:Stmt} {f:Addr} {fd:FuncData} {N ps:List Str} {k:Nat} (O:Ow) (F:Fun K x qual st f fd) (S:FnScope N ps (defScope st))
    (hO:∀ i ∈ O.s.map (·.1),ps.length ≤ i) (B:Rho → Option Out)
    (hbody:∀ (cdv:Value),CdOk K f cdv → ∀ (A:Around) (outer:List Env) (s:Shared) (H:Hp) (E:XK),Room k (A.deeper (envOfC qual (defScope st) s.heap.objs.size f cdv)) →
      PSsv (cxOf CX0 P w K mg base N qual (defScope st) f cdv A outer s H E).nox O (defBody st) B) :
    FnOk P w K mg base CX0 (k + 1) f fd ps (spR K O.r (runD ps.length (N.length - ps.length) B)):=by
  refine fn_pure O F S (fun ds r h=>(runD_some h).1) hO B hbody fun ds r h=>?_
  refine L2.o_A (runD_some h) fun h1 h2=>?_
  rw [h1]
  unfold outD at h2
  split at h2
  · rename_i q
    obtain rfl:=Option.some.inj h2
    exact .inl q
  · rename_i ρ q
    obtain rfl:=Option.some.inj h2
    exact .inr ⟨rfl,ρ,q⟩
  · exact L2.no_ns h2
noncomputable def DefOk (P:Program) (w:World) (K:PySem.W.Frag) (mg:Str → Option Value) (base:Heap) (k:Nat) (x:Str) (ps:List Str) (T:Ty) (F:List PyData → Option PyData):Prop:=
  ∃ f fd,FnOk P w K mg base CX0 k f fd ps (spR K T F) ∧ mg x = some (.ref f) ∧ PySem.W.keepIn K (.ref f) = true ∧ Binds K fd ps [] ∧ PySem.W.nsIn K mainGlobals x = some (some (.ref f))
section
variable {X:Cx} {O:Ow} {a:Expr} {es:List Expr} {pos p:Pos} {fs:Rho → Option (List PyData)} {k:Nat} {ps:List Str} {x:Str} {T:Ty} {F:List PyData → Option PyData}
theorem r_callD (G:DefOk X.prog X.w X.K X.mg X.base k x ps T F) (hr:Room k X.A) (hg:Gl X x) (ha:PAr X O (a :: es) fs) (hdb:autoParam ((x == ("__debug__":Str)) = false) L2.ad._auto_1) (he:autoParam (starEach (a :: es) X.env = (false,eval a X.env) :: starEach es X.env) L2.ar._auto_1) (hpl:autoParam ((backTo pos (starEach es X.env)).any (·.1) = false) L2.ar._auto_1) :
    PR X O (.Call (.Name x p) (a :: es) [] pos) (fun ρ=>(fs ρ).bind F):=by
  refine L2.o_EEAAAA (G) fun f fd h1 h2 h3 h4 _=>?_
  exact r_call h1 hr hg h2 h3 h4 ha hdb he hpl
theorem v_callD (G:DefOk X.prog X.w X.K X.mg X.base k x ps T F) (hr:Room k X.A) (hg:Gl X x) (ha:PAv X O (a :: es) fs) (hdb:autoParam ((x == ("__debug__":Str)) = false) L2.ad._auto_1) (he:autoParam (starEach (a :: es) X.env = (false,eval a X.env) :: starEach es X.env) L2.ar._auto_1) (hpl:autoParam ((backTo pos (starEach es X.env)).any (·.1) = false) L2.ar._auto_1) :
    PV X O (.Call (.Name x p) (a :: es) [] pos) (fun ρ=>(fs ρ).bind F):=by
  refine L2.o_EEAAAA (G) fun f fd h1 h2 h3 h4 _=>?_
  exact v_call h1 hr hg h2 h3 h4 ha hdb he hpl
theorem ft_callD (G:DefOk X.prog X.w X.K X.mg X.base k x ps T F) (hr:Room k X.A) (hg:Gl X x) (ha:PAv X O (a :: es) fs) (hdb:autoParam ((x == ("__debug__":Str)) = false) L2.ad._auto_1) (he:autoParam (starEach (a :: es) X.env = (false,eval a X.env) :: starEach es X.env) L2.ar._auto_1) (hpl:autoParam ((backTo pos (starEach es X.env)).any (·.1) = false) L2.ar._auto_1) :
    PFt X O T (.Call (.Name x p) (a :: es) [] pos) (fun ρ=>(fs ρ).bind F):=by
  refine L2.o_EEAAAA (G) fun f fd h1 h2 h3 h4 _=>?_
  exact ft_call h1 hr hg h2 h3 h4 ha hdb he hpl
end
theorem len0 {P:List Value → Prop} {us:List Value} (h:us.length = 0) (k:P []):P us:=by
  cases us with
  | nil=>exact k
  | cons a r=>cases h
theorem lenS {P:List Value → Prop} {us:List Value} {n:Nat} (h:us.length = n + 1) (k:∀ a r,r.length = n → P (a :: r)):P us:=by
  cases us with
  | nil=>cases h
  | cons a r=>exact k a r (Nat.succ.inj h)
theorem len1 {P:List Value → Prop} {us:List Value} (h:us.length = 1) (k:∀ a,P [a]):P us:=lenS h fun a r h=>len0 (P:=fun r=>P (a :: r)) h (k a)
theorem len2 {P:List Value → Prop} {us:List Value} (h:us.length = 2) (k:∀ a b,P [a,b]):P us:=lenS h fun a r h=>len1 (P:=fun r=>P (a :: r)) h (k a)
theorem len3 {P:List Value → Prop} {us:List Value} (h:us.length = 3) (k:∀ a b c,P [a,b,c]):P us:=lenS h fun a r h=>len2 (P:=fun r=>P (a :: r)) h (k a)
theorem len4 {P:List Value → Prop} {us:List Value} (h:us.length = 4) (k:∀ a b c d,P [a,b,c,d]):P us:=lenS h fun a r h=>len3 (P:=fun r=>P (a :: r)) h (k a)
end L2
namespace L2
open PySem PySem.Spec PyProof.Rows
variable [Reg]
noncomputable def Keeps (P:Program) (w:World) (h:Heap) (g:Addr):Prop:=∃ k,(k = Keeper.frame ∨ k = Keeper.machine ∨ k = Keeper.boundFrame) ∧ PySem.W.Looks (model P w) h (keeperOf (.ref g)) k
structure FvOk (P:Program) (w:World) (K:PySem.W.Frag) (mg:Str → Option Value) (base:Heap) (k:Nat) (tag:Str) (F:List PyData → Option PyData):Prop where
  keep:∀ (A:Around) (outer:List Env) (s:Shared) (H:Hp) (g:Addr) (cv:List V),Env0 P w K mg base A outer s H → FnV K H g tag cv → Keeps P w s.heap g
  run:∀ (A:Around) (outer:List Env) (s:Shared) (H:Hp) (g:Addr) (cv:List V) (us:List Value) (vs:List V) (Q:VK) (E:XK),Room k A → Env0 P w K mg base A outer s H → FnV K H g tag cv → Vals vs us → spR K .cl F (vs ++ cv) H Q E →
    codeAny (model P w) A (.call (.ref g) ⟨us,[]⟩) (CR CX0 outer P w H s Q E) s
noncomputable abbrev FTab:=List (Str × (List PyData → Option PyData))
section
variable {X:Cx} {O:Ow} {a:Expr} {es:List Expr} {pos p:Pos} {fs:Rho → Option (List PyData)} {fx:Rho → Option PyData} {k:Nat} {ps:List Str} {x:Str} {T:FTab} {T':Ty} {F:List PyData → Option PyData}
end
end L2
namespace L2
open PySem PySem.Spec PyProof.Rows
variable [Reg]
theorem lam_q {P q:Program} (h:((lamNames P).all fun y=>((recsOf q).find? fun e=>e.name == y).isSome) = true):∀ y ∈ lamNames P,((recsOf q).find? fun e=>e.name == y).isSome = true:=List.all_eq_true.mp h
theorem lam_k {P:Program} {K:PySem.W.Frag} (h:((lamNames P).all fun y=>match PySem.W.tabIn K y with | some z=>(K.lookup z.2).isNone | none=>true) = true) (y:Str) (c p:Addr) (hy:y ∈ lamNames P) (e:PySem.W.tabIn K y = some (c,p)):K.lookup p = none:=by
  have:=List.all_eq_true.mp h y hy
  rw [e] at this
  simpa using this
structure LamSc (L:Lam):Prop where
  kind:L.scope.kind = .function
  co:L.scope.isCoroutine = false
  gen:L.scope.isGenerator = false
  nocell:∀ y ∈ L.scope.names,y.2 ≠ .cell
  par:∀ x ∈ L.ps,L.scope.names.lookup x = some .local
  fr:((L.scope.names.filter fun x=>x.2 == .free).map (fun z=>z.1)).reverse = L.free
  frl:∀ x ∈ L.free,L.scope.names.lookup x = some .free
  nd:L.ps.Nodup
  ndf:L.free.Nodup
section
variable {P:Program} {w:World} {K:PySem.W.Frag} {mg:Str → Option Value} {base:Heap} {L:Lam} {clos:List (Str × Addr)} {g c':Addr} {q:Str} {A:Around} {outer:List Env} {s:Shared} {H:Hp}
end
section
variable {X:Cx}
theorem fz_ok {P:Program} {w:World} {H:Hp} {h:Heap} {a:Addr} {o:Obj} (e:h.get? a = some o):ObjOk P w H h a (fz a o):=⟨e,e,⟨o,e⟩,fun h1 h2 z k=>k o z⟩
end
section
variable {X:Cx} {O:Ow}
noncomputable def nf:PyData → Bool
  | .dict _=>false
  | .list ds=>go ds
  | .tuple ds=>go ds
  | _=>true
where go:List PyData → Bool
  | []=>true
  | d :: r=>nf d && go r
structure LamAtX (X:Cx) (L:Lam) (ix:List Nat):Prop where
  tab:∃ y c p,y ∈ lamNames X.prog ∧ PySem.W.tabIn X.K y = some (c,p) ∧ X.env.code = .ref c
  qual:X.env.qual ++ "<lambda>" = L.qual
  dfl:defaultsOf L.params X.env = ([],[])
  cell:∀ x ∈ L.free,X.env.scope.names.lookup x = some .cell
  fn:∀ x ∈ L.free,X.fn x = true
  sl:ix.map (fun i=>X.N[i]?) = L.free.map some
end
end L2
namespace L2
open PySem PySem.Spec PyProof.Rows
open Sem (wp)
variable [Reg]
section
variable {M:Model} {A:Around} {E:Value → Shared → Prop} {s:Shared} {env:Env} {outer:List Env} {base:Heap} {L e:Addr} {oe:Obj} {vs:Array Value} {Q:Unit → Shared → Prop}
structure Noted (fs:List Addr) (e:Addr) (oe:Obj) (fl:Value) (h h':Heap):Prop where
  exc:h'.get? e = some (oe.mapFields (·.setIfInBounds 1 (.ref h.objs.size)))
  tb:∃ oT ts,h'.get? h.objs.size = some oT ∧ oT.data = .fields ts ∧ ts[3]? = some fl
  keep:∀ b o,b ≠ e → b ∉ fs → h.get? b = some o → h'.get? b = some o
  slot:∀ b o,b ≠ e → h.get? b = some o → ∃ sl,h'.get? b = some { o with slots:=sl }
theorem tail_exact {head:Value} {hadNext:Bool} (hfr:A.frames = some (env :: outer)) (hl:s.heap.FunFrames base (env :: outer)) (hf:env.frame = some L)
    (he:s.heap.get? e = some oe) (hd:oe.data = .fields vs) (hsz:1 < vs.size)
    (h:∀ h',Noted ((env :: outer).filterMap (·.frame)) e oe (rawInt L) s.heap h' → Q () { s with heap:=h' }) :
    wpAny M A (do let a ← frameOf env; let pl ← entryPlaceOf L hadNext; let b ← EntryCells.newEntry head a .none (rawInt L) .none pl; setField (.ref e) 1 b) Q E s:=by
  have hene:e ∉ (env :: outer).filterMap (·.frame):=fun hm=>by
    refine L2.o_AEA (hl.mem hm) fun _ o ho hnf=>?_
    rw [he] at ho; injection ho with ho; subst ho; exact hnf vs hd
  refine wpAny_bind (wpAny_frameOf_fun hfr hl hf fun h₁ hs₁=>?_)
  refine wpAny_bind (wpAny_entryPlaceOf fun pl hpl=>?_)
  unfold EntryCells.newEntry newFields
  refine wpAny_bind (wpAny_newObj_type ?_ (hpl.sizeOk5 _ _ _ _ _))
  have he₁:h₁.get? e = some oe:=(hs₁.2.1 e hene).trans he
  have he₂:=Heap.get?_push_of_some (h:=h₁) { cls:=.type "traceback",dict:=none,data:=.fields ([head,.ref L,.none,rawInt L,.none] ++ (if pl.isEmpty then List.replicate 6 Value.none else pl)).toArray } he₁
  refine wpAny_setField he₂ hd hsz (h _ ?_)
  have hTe:h₁.objs.size ≠ e:=Nat.ne_of_gt (Heap.lt_size he₁)
  have hd₃:=Obj.data_mapFields hd (·.setIfInBounds 1 (Value.ref h₁.objs.size))
  have he₃:=Heap.get?_update_self (Obj.mapFields (·.setIfInBounds 1 (Value.ref h₁.objs.size))) he₂ (Obj.isFreed_of_fields hd₃)
  have hT₃:=(Heap.get?_update_other (h₁.push { cls:=.type "traceback",dict:=none,data:=.fields ([head,.ref L,.none,rawInt L,.none] ++ (if pl.isEmpty then List.replicate 6 Value.none else pl)).toArray })
    (Obj.mapFields (·.setIfInBounds 1 (Value.ref h₁.objs.size))) (Ne.symm hTe)).trans (Heap.get?_push_size h₁ rfl)
  have keep:∀ b o,b ≠ e → h₁.get? b = some o →
      ((h₁.push { cls:=.type "traceback",dict:=none,data:=.fields ([head,.ref L,.none,rawInt L,.none] ++ (if pl.isEmpty then List.replicate 6 Value.none else pl)).toArray }).update e (Obj.mapFields (·.setIfInBounds 1 (Value.ref h₁.objs.size)))).get? b = some o:=
    fun b o hbe hb=>by
      rw [Heap.get?_update_other _ _ (Ne.symm hbe)]
      exact Heap.get?_push_of_some _ hb
  refine ⟨by rw [← hs₁.1]; exact he₃,⟨_,_,by rw [← hs₁.1]; exact hT₃,rfl,by first | (simp; done) | (rcases hpl with rfl | ⟨_,_,_,_,_,_,_,rfl⟩ <;> simp)⟩,fun b o h1 h2 h3=>keep b o h1 ((hs₁.2.1 b h2).trans h3),fun b o h1 h3=>?_⟩
  refine L2.o_E (hs₁.2.2 b o h3) fun sl hs=>?_
  exact ⟨sl,keep b _ h1 hs⟩
noncomputable def Tr (h:Heap) (vs:Array Value):Prop:=vs[1]? = some .none ∨ ∃ T oT ts,vs[1]? = some (.ref T) ∧ h.get? T = some oT ∧ oT.data = .fields ts ∧ ts[3]? = some .none
theorem note_exact (hfr:A.frames = some (env :: outer)) (hl:s.heap.FunFrames base (env :: outer)) (hf:env.frame = some L)
    (he:s.heap.get? e = some oe) (hd:oe.data = .fields vs) (h1:Tr s.heap vs)
    (h:∀ h',Noted ((env :: outer).filterMap (·.frame)) e oe (rawInt L) s.heap h' → Q () { s with heap:=h' }) :
    wpAny M A (noteFrame (.ref e) env) Q E s:=by
  unfold noteFrame
  simp only [hf]
  rcases h1 with h1 | ⟨T,oT,ts,h1,hT,hdT,h3⟩
  · refine wpAny_bind (wpAny_field he hd h1 ?_)
    rw [if_neg (by decide)]
    exact tail_exact hfr hl hf he hd (Array.getElem?_eq_some_iff.mp h1).1 h
  · refine wpAny_bind (wpAny_field he hd h1 ?_)
    rw [if_pos (show (Value.ref T != Value.none) = true from by simp)]
    refine wpAny_bind (wpAny_field hT hdT h3 ?_)
    rw [if_neg (show ¬ ((Value.none == rawInt L) = true) from by simp [rawInt])]
    refine wpAny_bind (wpAny_setField hT hdT (Array.getElem?_eq_some_iff.mp h3).1 ?_)
    rw [Heap.update_setField_same s.heap T oT ts 3 .none hT hdT h3]
    exact tail_exact hfr hl hf he hd (Array.getElem?_eq_some_iff.mp h1).1 h
theorem down_exact {L:Addr} {fs:List Addr} {s:Shared} {h0:Heap} (hne:e < h0.objs.size) (hd:oe.data = .fields vs) (hsz:1 < vs.size) (n:Noted fs e oe (rawInt L) h0 s.heap) (hfs:∀ b ∈ fs,b < h0.objs.size)
    (h:∀ h',Noted fs e oe .none h0 h' → Q () { s with heap:=h' }):wpAny M A (setFlight (.ref e) none) Q E s:=by
  refine L2.o_EEAA (n.tb) fun oT ts h2 h3 h4=>?_
  have hTe:h0.objs.size ≠ e:=Nat.ne_of_gt hne
  have hz:3 < ts.size:=(Array.getElem?_eq_some_iff.mp h4).1
  have hd':=Obj.data_mapFields hd (·.setIfInBounds 1 (Value.ref h0.objs.size))
  refine wpAny_setFlight_none n.exc hd' (by simp [hsz]) h2 h3 hz (h _ ?_)
  have other:∀ b,b ≠ h0.objs.size → (s.heap.update h0.objs.size (Obj.mapFields (·.setIfInBounds 3 Value.none))).get? b = s.heap.get? b:=fun b hb=>Heap.get?_update_other _ _ (Ne.symm hb)
  refine ⟨(other e (Ne.symm hTe)).trans n.exc,⟨_,_,Heap.get?_update_self _ h2 (Obj.isFreed_of_fields (Obj.data_mapFields h3 _)),Obj.data_mapFields h3 _,by simp [hz]⟩,fun b o x1 x2 x3=>?_,fun b o x1 x3=>?_⟩
  · exact (other b (Nat.ne_of_lt (Heap.lt_size x3))).trans (n.keep b o x1 x2 x3)
  · refine L2.o_E (n.slot b o x1 x3) fun sl q=>?_
    exact ⟨sl,(other b (Nat.ne_of_lt (Heap.lt_size x3))).trans q⟩
end
structure FlyC (H:Hp) (h G:Heap) (e C:Addr) (od:Option Addr):Prop where
  ex:∃ oe vs,h.get? e = some oe ∧ oe.cls = .ref C ∧ oe.dict = od ∧ oe.data = .fields vs ∧ Tr h vs
  fre:H e = none
  new:G.get? e = none
structure Fly (X:Cx) (pins:List (Addr × Obj)) (H:Hp) (s:Shared) (e C:Addr) (od:Option Addr):Prop where
  c:FlyC H s.heap X.s₀.heap e C od
  pin:∀ p ∈ X.pn ++ pins,p.1 ≠ e
theorem Obj.dict_mapFields (o:Obj) (f:Array Value → Array Value):(o.mapFields f).dict = o.dict:=by
  obtain ⟨c,d,dt,sl⟩:=o
  cases dt <;> rfl
noncomputable def CXe (P:Program) (w:World):CXT:=fun outer H s E e s'=>∃ H' a C od,e = .ref a ∧ s'.os = s.os ∧ AllBare s'.gens ∧ Un (frs outer) [] H H' s.heap s'.heap ∧ HOk P w H' s'.heap ∧ FlyC H' s'.heap s.heap a C od ∧ E (.ref C) od H'
theorem Tr.of_noted {fs:List Addr} {e:Addr} {oe:Obj} {h0 h:Heap} {vs:Array Value} (hsz:1 < vs.size) (n:Noted fs e oe .none h0 h):Tr h (vs.setIfInBounds 1 (.ref h0.objs.size)):=by
  refine L2.o_EEAA (n.tb) fun oT ts h2 h3 h4=>?_
  exact .inr ⟨_,oT,ts,by simp [hsz],h2,h3,h4⟩
theorem Tr.sz {h:Heap} {vs:Array Value} (t:Tr h vs):1 < vs.size:=by
  rcases t with t | ⟨_,_,_,t,_⟩
  · exact (Array.getElem?_eq_some_iff.mp t).1
  · exact (Array.getElem?_eq_some_iff.mp t).1
section
variable {P:Program} {w:World} {K:PySem.W.Frag} {mg:Str → Option Value} {base:Heap} {N:List Str} {qual:Str} {scope:Scope} {f:Addr} {cd:Value} {A:Around} {outer:List Env} {s s':Shared} {H H':Hp} {E:XK} {pins:List (Addr × Obj)} {σ:St} {a C:Addr} {od:Option Addr}
theorem cx_leave (I:Inv (cxOf (CXe P w) P w K mg base N qual scope f cd A outer s H E) pins σ H' s') (F:FlyC H' s'.heap s.heap a C od) (q:E (.ref C) od H'):(cxOf (CXe P w) P w K mg base N qual scope f cd A outer s H E).xe (.ref a) s':=by
  refine L2.o_EEAAAA (F.ex) fun oe vs he hc hdi hd tr=>?_
  show wpAny (model P w) _ (leaving _ (.ref a)) _ _ s'
  unfold leaving
  have hst:=I.stack
  refine wpAny_bind (note_exact (L:=s.heap.objs.size) I.ok.frames hst rfl he hd tr fun h1 n1=>?_)
  have hfs:∀ b ∈ ((envOfC qual scope s.heap.objs.size f cd) :: outer).filterMap (·.frame),b < s'.heap.objs.size:=fun b hb=>by
    refine L2.o_AEA (hst.mem hb) fun _ o ho _=>?_
    exact Heap.lt_size ho
  refine down_exact (Heap.lt_size he) hd tr.sz n1 hfs fun h2 n2=>?_
  have hLs:s.heap.objs.size ≤ (cxOf (CXe P w) P w K mg base N qual scope f cd A outer s H E).env.locals:=I.ok.above
  have nfr:∀ b o,s.heap.get? b = some o → b ∉ frs outer → b ∉ ((envOfC qual scope s.heap.objs.size f cd) :: outer).filterMap (·.frame):=fun b o e hb z=>by
    rcases List.mem_cons.mp (I.stkSub b z) with z | z
    · exact absurd (Heap.lt_size e) (by rw [z]; exact Nat.not_lt.mpr hLs)
    · exact hb z
  have na:∀ b o,s.heap.get? b = some o → b ≠ a:=fun b o e z=>by rw [z,F.new] at e; cases e
  refine L2.i_EEEEAAAAAA (H') (a) (C) (od) (rfl) (I.os) (I.bare) (⟨fun b o e n hb hx=>?_,fun b o e n hb hx=>?_,I.base.free,fun b o e hx=>?_,I.base.tups,I.base.frzs,I.base.tbls,I.base.tabs⟩) (fun b u e=>?_) (⟨⟨_,_,n2.exc,by rw [Obj.cls_mapFields]; exact hc,by rw [Obj.dict_mapFields]; exact hdi,Obj.data_mapFields hd _,Tr.of_noted tr.sz n2⟩,F.fre,F.new⟩) (q)
  · exact n2.keep b o (na b o e) (nfr b o e hb) (I.base.keep b o e n hb hx)
  · refine L2.o_E (I.base.slot b o e n hb hx) fun sl e1=>?_
    refine L2.o_E (n2.slot b _ (na b o e) e1) fun sl' e2=>?_
    exact ⟨sl',e2⟩
  · refine L2.o_E (I.base.there b o e hx) fun o' e1=>?_
    refine L2.o_E (n2.slot b _ (na b o e) e1) fun sl' e2=>?_
    exact ⟨_,e2⟩
  · have keepT:∀ c v,s'.heap.get? c = some v → H' c ≠ none → h2.get? c = some v:=fun c v q1 q2=>
      n2.keep c v (fun z=>q2 (by rw [z]; exact F.fre)) (fun z=>q2 (I.stkFree c z)) q1
    refine (I.hok b u e).stay (fun c v hc q1=>keepT c v q1 ?_) (fun _ q=>q) fun _ _ q=>q
    rcases hc with rfl | hc
    · rw [e]; simp
    · rw [hc]; simp
end
section
variable {X:Cx} {k:Nat} {f:Addr} {fd:FuncData} {ps:List Str} {sp:Sp} {pins:List (Addr × Obj)} {σ:St} {H:Hp} {s:Shared} {Q:VK} {E:XK} {us:List Value} {vs:List V}
theorem run_fnX (F:FnOk X.prog X.w X.K X.mg X.base (CXe X.prog X.w) k f fd ps sp) (hr:Room k X.A) (hb:Binds X.K fd ps []) (hex:X.ex = []) (I:Inv X pins σ H s) (r:Vals vs us) (h:sp vs H Q E)
    (hx:∀ s' H' a C od,Inv X pins σ H' s' → Fly X pins H' s' a C od → E (.ref C) od H' → X.xe (.ref a) s'):wpAny (model X.prog X.w) X.A (call (.ref f) us) (EP X pins σ Q) X.xe s:=by
  have hl:us.length = ps.length:=by rw [← r.length]; exact F.len _ _ _ _ h
  have hb':=hb s us I.kIn (by rw [List.append_nil]; exact hl)
  rw [List.append_nil] at hb'
  refine wpAny_call (codeAny_mono (F.run X.A X.stack s H ⟨us,[]⟩ us vs Q E hr I.env0 hb' r h) fun r s' hq=>?_)
  cases r with
  | error e=>
    revert hq
    refine fun zqq=>L2.o_EEEEAAAAAA zqq fun H' a C od zq4 ho hg un hok fl q=>?_
    clear zqq
    subst zq4
    refine hx s' H' a C od (I.call' ho un hok hg fun b z=>absurd z (by simp)) ⟨⟨fl.ex,fl.fre,?_⟩,fun p hp z=>?_⟩ q
    rotate_left
    · have:=(I.pin p hp).1
      rw [z,fl.new] at this; cases this
    cases e0:X.s₀.heap.get? a with
    | none=>rfl
    | some o=>
      obtain ⟨o',e1⟩:=I.base.there a o e0 (by rw [hex]; simp)
      rw [fl.new] at e1; cases e1
  | ok fl=>
    cases fl with
    | ret u=>exact I.after hq
    | next=>exact False.elim hq
    | brk=>exact False.elim hq
    | cont=>exact False.elim hq
end
theorem ObjOk.there {P:Program} {w:World} {H:Hp} {h:Heap} {a:Addr} {o:HO} (x:ObjOk P w H h a o):∃ u,h.get? a = some u:=by
  cases o with
  | lst xs=>obtain ⟨_,_,_,_,e⟩:=x; exact ⟨_,e⟩
  | tup xs=>obtain ⟨_,_,_,o,e,_⟩:=x; exact ⟨_,e⟩
  | ins C dx fs=>obtain ⟨_,_,_,e,_⟩:=x; exact ⟨_,e⟩
  | own y=>obtain ⟨_,e⟩:=x; exact ⟨_,e⟩
  | xd fs=>obtain ⟨_,⟨_,_,_,e,_⟩,_⟩:=x; exact ⟨_,e⟩
  | frz ob u=>obtain ⟨e,_⟩:=x; exact ⟨_,e⟩
  | tbl ps=>exact ⟨_,x⟩
  | tab=>obtain ⟨_,e,_⟩:=x; exact ⟨_,e⟩
  | ext φ=>obtain ⟨_,⟨_,e⟩,_⟩:=x; exact ⟨_,e⟩
theorem Inv.none_of {X:Cx} {pins:List (Addr × Obj)} {σ:St} {H:Hp} {s:Shared} {a:Addr} (I:Inv X pins σ H s) (hex:X.ex = []) (e:s.heap.get? a = none):H a = none ∧ X.s₀.heap.get? a = none ∧ ∀ p ∈ X.pn ++ pins,p.1 ≠ a:=by
  refine ⟨?_,?_,fun p hp z=>?_⟩
  · cases q:H a with
    | none=>rfl
    | some u=>
      refine L2.o_E ((I.hok a u q).there) fun o r=>?_
      rw [e] at r; cases r
  · cases q:X.s₀.heap.get? a with
    | none=>rfl
    | some o=>
      obtain ⟨o',r⟩:=I.base.there a o q (by rw [hex]; simp)
      rw [e] at r; cases r
  · have:=(I.pin p hp).1
    rw [z,e] at this; cases this
end L2
namespace L2
open PySem PySem.Spec PyProof.Rows
variable [Reg]
noncomputable def XIs (K:PySem.W.Frag) (H:Hp) (C:Addr) (od:Option Addr) (x:PyData):Prop:=
  ∃ cls fv fd,x = excD cls (nmD fv ++ fd) ∧ PySem.W.nsIn K mainGlobals cls = some (some (.ref C)) ∧ ((fv = [] ∧ od = none) ∨ ∃ dx,od = some dx ∧ H dx = some (.xd fv)) ∧ DenL K H (fv.map (·.2)) fd
theorem XIs.mono {K:PySem.W.Frag} {H H':Hp} {C:Addr} {od:Option Addr} {x:PyData} (s:Same H H') (h:XIs K H C od x):XIs K H' C od x:=by
  refine L2.o_EEEAAA (h) fun cls fv fd h1 h2 h3 h4=>?_
  refine L2.i_EEEAAA (cls) (fv) (fd) (h1) (h2) ?_ (h4.mono s)
  rcases h3 with h3 | ⟨dx,h3,h5⟩
  · exact .inl h3
  · exact .inr ⟨dx,h3,s _ _ h5⟩
inductive RX where
  | ret (d:PyData) | exc (x:PyData)
noncomputable def spX (K:PySem.W.Frag) (T:Ty) (F:List PyData → Option RX):Sp:=fun vs H Q E=>∃ (hid:Addr → Prop) (ds:List PyData) (r:RX),(∀ b,hid b → ∃ vs,H b = some (.lst vs)) ∧ DenL K (del H hid) vs ds ∧ F ds = some r ∧
  match r with
  | .ret d=>∀ v as H',Same H H' → (∀ p ∈ as,H p = none) → DenO K H' (del H' (uni hid as)) T v d as → Q v H'
  | .exc x=>∀ C od H',Same H H' → XIs K (del H' hid) C od x → E (.ref C) od H'
noncomputable def tXt (X:Cx) (O:Ow) (T:Ty) (f:Rho → Option RX):TE:=fun σ H Q=>At5 X.K O f σ H fun hid H0 ρ ow r=>
  match r with
  | .ret d=>∀ v as H',Same H H' → (∀ p ∈ as,H p = none) → DenO X.K H' (del H' (uni hid (as ++ ow))) T v d as → Q v H'
  | .exc x=>∀ pins s' H' a C od,Inv X pins σ H' s' → Same H H' → Fly X pins H' s' a C od → XIs X.K (del H' (uni hid ow)) C od x → X.xe (.ref a) s'
noncomputable abbrev PXt (X:Cx) (O:Ow) (T:Ty) (e:Expr) (f:Rho → Option RX):Prop:=PE X e (tXt X O T f)
noncomputable def DefX (P:Program) (w:World) (K:PySem.W.Frag) (mg:Str → Option Value) (base:Heap) (k:Nat) (x:Str) (ps:List Str) (T:Ty) (F:List PyData → Option RX):Prop:=
  ∃ f fd,FnOk P w K mg base (CXe P w) k f fd ps (spX K T F) ∧ mg x = some (.ref f) ∧ PySem.W.keepIn K (.ref f) = true ∧ Binds K fd ps [] ∧ PySem.W.nsIn K mainGlobals x = some (some (.ref f))
noncomputable def pureX (F:List PyData → Option RX) (ds:List PyData):Option PyData:=(F ds).bind fun r=>match r with
  | .ret d=>some d
  | .exc _=>none
theorem DefX.ok {P:Program} {w:World} {K:PySem.W.Frag} {mg:Str → Option Value} {base:Heap} {k:Nat} {x:Str} {ps:List Str} {T:Ty} {F:List PyData → Option RX} (G:DefX P w K mg base k x ps T F):DefOk P w K mg base k x ps T (pureX F):=by
  refine L2.o_EEAAAA (G) fun f fd h1 h2 h3 h4 h5=>?_
  have imp:∀ vs H Q E,spR K T (pureX F) vs H Q E → spX K T F vs H Q E0:=fun vs H Q E zpat=>by
    refine L2.o_EEEAAA (zpat) fun hid ds r a1 a2 a3 a4=>?_
    obtain ⟨q,b1,b2⟩:=bind_some a3
    cases q with
    | ret d=>cases b2; exact ⟨hid,ds,.ret r,a1,a2,b1,a4⟩
    | exc x=>exact L2.no_ns b2
  refine L2.i_EEAAAA (f) (fd) (⟨fun vs H Q E h=>h1.len vs H Q E0 (imp vs H Q E h),fun A outer s H args us vs Q E hr he hb hv hs=>?_⟩) (h2) (h3) (h4) (h5)
  refine codeAny_mono (h1.run A outer s H args us vs Q E0 hr he hb hv (imp vs H Q E hs)) fun r s' hq=>?_
  cases r with
  | error e=>
    refine L2.o_EEEEAAAAAA (hq) fun H' a C od _ _ _ _ _ _ q=>?_
    exact q.elim
  | ok fl=>cases fl <;> exact hq
section
variable {X:Cx} {O:Ow} {a:Expr} {es:List Expr} {pos p:Pos} {fs:Rho → Option (List PyData)} {k:Nat} {ps:List Str} {x:Str} {T:Ty} {F:List PyData → Option RX}
theorem xt_call (G:DefX X.prog X.w X.K X.mg X.base k x ps T F) (hr:Room k X.A) (hg:Gl X x) (hex:X.ex = []) (ha:PAv X O (a :: es) fs) (hdb:autoParam ((x == ("__debug__":Str)) = false) L2.ad._auto_1) (he:autoParam (starEach (a :: es) X.env = (false,eval a X.env) :: starEach es X.env) L2.ar._auto_1) (hpl:autoParam ((backTo pos (starEach es X.env)).any (·.1) = false) L2.ar._auto_1) :
    PXt X O T (.Call (.Name x p) (a :: es) [] pos) (fun ρ=>(fs ρ).bind F):=by
  refine L2.o_EEAAAA (G) fun f fd h1 h2 h3 h4 _=>?_
  intro pins s σ H Q I h
  obtain ⟨hid,H0,ρ,ow,r,E,hf,q⟩:=h
  obtain ⟨ds,g1,g2⟩:=bind_some hf
  refine wpAny_Call_Name_kw (ld_glob I hg h2 ?_ hdb)
  refine PySem.W.callWith_K (h₀:=X.base) I.ok.mod.kin h3 (thn (ha pos pins s σ H (fun vs H1=>Same H H1 ∧ DenL X.K (del H1 (uni hid ow)) vs ds) I ⟨hid,H0,ρ,ow,ds,E,g1,fun vs H1 s1 D1=>⟨s1,D1⟩⟩) fun us s1 ⟨vs,H1,I1,r1,sm,D1⟩=>⟨I1.kIn,?_⟩) he hpl
  refine run_fnX (E:=fun cv od H'=>∃ x C,r = .exc x ∧ cv = .ref C ∧ Same H1 H' ∧ XIs X.K (del H' (uni hid ow)) C od x) h1 hr h4 hex I1 r1 ⟨uni hid ow,ds,r,(E.mono sm).uniL,D1,g2,?_⟩ fun s2 H2 a C od I2 fl ⟨x,C',hrx,hC,sm2,hx⟩=>?_
  · cases r with
    | ret d=>
      intro v as H2 s2 n2 D2
      refine q v as H2 (sm.trans s2) (fun p hp=>sm.free (n2 p hp)) (D2.mono (del_sub fun b z=>?_) fun p _ o e=>e)
      rcases z with z | z
      · exact .inl (.inl z)
      · rcases List.mem_append.mp z with z | z
        · exact .inr z
        · exact .inl (.inr z)
    | exc x=>exact fun C od H2 s2 hx=>⟨x,C,rfl,rfl,s2,hx⟩
  · cases hC
    subst hrx
    exact q pins s2 H2 a C od I2 (sm.trans sm2) fl hx
end
inductive OutX where
  | nx (ρ:Rho) | rt (d:PyData) | bk (ρ:Rho) | ct (ρ:Rho) | ex (x:PyData) (ρ:Rho)
noncomputable def ThenX (X:Cx) (O:Ow) (hid:Addr → Prop) (H0 G:Hp) (D:Ends):OutX → Prop
  | .nx ρ'=>∀ σ' H' ow',Same G (del H' (uni hid ow')) → EnvOk X.K O hid H0 σ' H' ρ' ow' → D.nx σ' H'
  | .bk ρ'=>∀ σ' H' ow',Same G (del H' (uni hid ow')) → EnvOk X.K O hid H0 σ' H' ρ' ow' → D.bk σ' H'
  | .ct ρ'=>∀ σ' H' ow',Same G (del H' (uni hid ow')) → EnvOk X.K O hid H0 σ' H' ρ' ow' → D.ct σ' H'
  | .rt d=>∀ v as H',Same H0 H' → (∀ p ∈ as,H0 p = none) → DenO X.K H' (del H' (uni hid as)) O.r v d as → D.rt v H'
  | .ex x ρ'=>∀ pins s' σ' H' ow' a C od,Inv X pins σ' H' s' → Same G (del H' (uni hid ow')) → EnvOk X.K O hid H0 σ' H' ρ' ow' → Fly X pins H' s' a C od → XIs X.K (del H' (uni hid ow')) C od x → X.xe (.ref a) s'
noncomputable def tPx (X:Cx) (O:Ow) (F:Rho → Option OutX):TS:=fun D σ H=>At5 X.K O F σ H fun hid H0 ρ ow o=>ThenX X O hid H0 (del H (uni hid ow)) D o
noncomputable abbrev PSx (X:Cx) (O:Ow) (st:Stmt) (F:Rho → Option OutX):Prop:=PS X st (tPx X O F)
noncomputable abbrev PSsx (X:Cx) (O:Ow) (st:List Stmt) (F:Rho → Option OutX):Prop:=PSs X st (tPx X O F)
theorem ThenX.weak {X:Cx} {O:Ow} {hid:Addr → Prop} {H0 G G':Hp} {D:Ends} {o:OutX} (s:Same G G') (h:ThenX X O hid H0 G D o):ThenX X O hid H0 G' D o:=by
  cases o with
  | nx ρ=>exact fun σ' H' ow' s' E=>h σ' H' ow' (s.trans s') E
  | bk ρ=>exact fun σ' H' ow' s' E=>h σ' H' ow' (s.trans s') E
  | ct ρ=>exact fun σ' H' ow' s' E=>h σ' H' ow' (s.trans s') E
  | rt d=>exact h
  | ex x ρ=>exact fun pins s1 σ' H' ow' a C od I s' E f q=>h pins s1 σ' H' ow' a C od I (s.trans s') E f q
noncomputable def Out.x:Out → OutX
  | .nx ρ=>.nx ρ
  | .rt d=>.rt d
  | .bk ρ=>.bk ρ
  | .ct ρ=>.ct ρ
noncomputable def seqX (F G:Rho → Option OutX) (ρ:Rho):Option OutX:=(F ρ).bind fun o=>match o with
  | .nx ρ'=>G ρ'
  | o=>some o
noncomputable def setX (i:Nat) (ρ:Rho) (x:Option RX):Option OutX:=x.map fun r=>match r with
  | .ret d=>.nx (ρ.set i (some d))
  | .exc x=>.ex x ρ
noncomputable def dropX (ρ:Rho) (x:Option RX):Option OutX:=x.map fun r=>match r with
  | .ret _=>.nx ρ
  | .exc x=>.ex x ρ
section
variable {X:Cx} {O:Ow} {st:Stmt} {rest:List Stmt} {F G:Rho → Option OutX} {e:Expr} {f:Rho → Option RX} {pos:Pos} {T:Ty}
theorem xs_lift {sts:List Stmt} {F:Rho → Option Out} (h:PSsv X.nox O sts F):PSsx X O sts (fun ρ=>(F ρ).map Out.x):=fun pins s σ H D I zpat=>by
  obtain ⟨hid,H0,ρ,ow,o,E,hf,k⟩:=zpat
  obtain ⟨o',g1,rfl⟩:=map_some hf
  refine wpAny_mono (h pins s σ H D (I.wish _) ⟨hid,H0,ρ,ow,o',E,g1,?_⟩) (fun _ _ q=>q.unwish) fun _ _ z=>False.elim z
  cases o' <;> exact k
theorem xx_nil:PSsx X O [] (fun ρ=>some (.nx ρ)):=pss_nil.imp fun D σ H zpat=>by
  obtain ⟨hid,H0,ρ,ow,o,E,hf,k⟩:=zpat
  obtain rfl:=Option.some.inj hf
  exact k σ H ow (Same.refl _) E
theorem xx_cons (h1:PSx X O st F) (h2:PSsx X O rest G):PSsx X O (st :: rest) (seqX F G):=(pss_cons h1 h2).imp fun D σ H zpat=>by
  obtain ⟨hid,H0,ρ,ow,o,E,hf,k⟩:=zpat
  obtain ⟨o1,g1,g2⟩:=bind_some hf
  refine ⟨hid,H0,ρ,ow,o1,E,g1,?_⟩
  cases o1 with
  | nx ρ1=>exact fun σ' H' ow' s' E'=>⟨hid,H0,ρ1,ow',o,E',g2,by cases o <;> exact k.weak s'⟩
  | rt d=>cases g2; exact k
  | bk ρ1=>cases g2; exact k
  | ct ρ1=>cases g2; exact k
  | ex x ρ1=>cases g2; exact k
theorem xx_one (h1:PSx X O st F):PSsx X O [st] F:=pss_one h1
theorem xx_if {c:Expr} {a b:List Stmt} {ft:Rho → Option Bool} (hc:PTv X.nox O c ft) (ha:PSsx X O a F) (hb:PSsx X O b G):PSx X O (.If c a b pos) (fun ρ=>condO (ft ρ) (F ρ) (G ρ)):=(ps_if hc.nox ha hb).imp fun D σ H zpat=>by
  obtain ⟨hid,H0,ρ,ow,o,E,hf,k⟩:=zpat
  obtain ⟨c,g1,g2⟩:=bind_some hf
  refine ⟨hid,H0,ρ,ow,c,E,g1,fun H' s=>?_⟩
  cases c with
  | true=>rw [if_pos rfl] at g2 ⊢; exact ⟨hid,H0,ρ,ow,o,E.mono s,g2,k.weak (del_mono s _)⟩
  | false=>rw [if_neg Bool.false_ne_true] at g2 ⊢; exact ⟨hid,H0,ρ,ow,o,E.mono s,g2,k.weak (del_mono s _)⟩
theorem xx_expr (h:PXt X O T e f) (hs:autoParam (swapsWith e none pos.line X.env = pure false) L2.ar._auto_1):PSx X O (.Expr e pos) (fun ρ=>dropX ρ (f ρ)):=(ps_expr h hs).imp fun D σ H zpat=>by
  obtain ⟨hid,H0,ρ,ow,o,E,hf,k⟩:=zpat
  obtain ⟨r,g1,rfl⟩:=map_some hf
  refine ⟨hid,H0,ρ,ow,r,E,g1,?_⟩
  cases r with
  | ret d=>exact fun v as H' s n _=>k σ H' ow (del_mono s _) (E.mono s)
  | exc x=>exact fun pins s' H' a C od I s fl hx=>k pins s' σ H' ow a C od I (del_mono s _) (E.mono s) fl hx
theorem xx_setT {i:Nat} {x:Str} {pos':Pos} (hN:X.N.Nodup) (hi:X.N[i]? = some x) (hx:Loc X.env.scope x) (he:PXt X O T e f) (hO:autoParam (O.s.lookup i = some T) L2.ar._auto_1) (hs:autoParam (swapsWith e (some (.Name x pos')) pos.line X.env = pure false) L2.ar._auto_1) (hf:X.fn x = true ∨ X.env.scope.names.lookup x = some .local:=by first | exact .inl rfl | exact .inr rfl | assumption) :
    PSx X O (.Assign [.Name x pos'] e pos) (fun ρ=>setX i ρ (f ρ)):=(ps_set hN hi hx he hs hf).imp fun D σ H zpat=>by
  obtain ⟨hid,H0,ρ,ow,o,E,hf,k⟩:=zpat
  obtain ⟨r,g1,rfl⟩:=map_some hf
  refine ⟨hid,H0,ρ,ow,r,E,g1,?_⟩
  cases r with
  | exc x=>exact fun pins s' H' a C od I s fl hx=>k pins s' σ H' ow a C od I (del_mono s _) (E.mono s) fl hx
  | ret d=>
    refine fun v as H' s n Dv=>k _ H' (as ++ ow) ?_ (E.setT s hO n Dv)
    intro b u z
    by_cases hb:uni hid ow b
    · rw [del_in hb] at z; cases z
    · rw [del_out hb] at z
      rw [del_out fun y=>?_]
      · exact s b u z
      · rcases y with y | y
        · exact hb (.inl y)
        · rcases List.mem_append.mp y with y | y
          · rw [n b y] at z; cases z
          · exact hb (.inr y)
end
end L2
namespace L2
open PySem PySem.Spec PyProof.Rows
variable [Reg]
section
variable {X:Cx} {O:Ow} {st:Stmt} {rest:List Stmt} {F G:Rho → Option OutX} {e:Expr} {f:Rho → Option RX} {pos:Pos} {T:Ty}
noncomputable def bmVE:List Value:=[.type "ValueError",.type "Exception",.type "BaseException",.type "object"]
inductive XNo (K:PySem.W.Frag) (C:Addr):Prop
  | mk (nm q:Str) (N:Addr) (bs bm:List Value) (hdct:Bool) (sn:List Str) (sub:List Value) (ab:Bool) (col:Option Bool) (dd:Option Addr) (k0 k1 k2 k3 k5:Option Value) (ob:Obj) (l:K.lookup C = some ob) (eo:ob = excClassObj nm q C N bs bm hdct sn sub ab col dd k0 k1 k2 k3 k5 "ValueError.__new__") (t:PySem.W.tailIn K bmVE bm = true) (o:PySem.W.nsOkIn K N = true) (i:PySem.W.nsIn K N "__init__" = some none):XNo K C
theorem XNo.of {K:PySem.W.Frag} {C:Addr} {nm q:Str} {N:Addr} {bs bm:List Value} {hdct:Bool} {sn:List Str} {sub:List Value} {ab:Bool} {col:Option Bool} {dd:Option Addr} {k0 k1 k2 k3 k5:Option Value} {ob:Obj} (l:K.lookup C = some ob) (eo:ob = excClassObj nm q C N bs bm hdct sn sub ab col dd k0 k1 k2 k3 k5 "ValueError.__new__") (t:PySem.W.tailIn K bmVE bm = true) (o:PySem.W.nsOkIn K N = true) (i:PySem.W.nsIn K N "__init__" = some none):XNo K C:=⟨nm,q,N,bs,bm,hdct,sn,sub,ab,col,dd,k0,k1,k2,k3,k5,ob,l,eo,t,o,i⟩
structure XCls (X:Cx) (x:Str) (C:Addr):Prop where
  gl:Gl X x
  mg:X.mg x = some (.ref C)
  ns:PySem.W.nsIn X.K mainGlobals x = some (some (.ref C))
  ex:XNo X.K C
inductive ExcObj (h:Heap) (C:Addr):Prop
  | mk (nm q:Str) (N:Addr) (bs bm:List Value) (hdct:Bool) (sn:List Str) (sub:List Value) (ab:Bool) (col:Option Bool) (dd:Option Addr) (k0 k1 k2 k3 k5:Option Value) (mN:Str → Option Value) (hC:h.get? C = some (excClassObj nm q C N bs bm hdct sn sub ab col dd k0 k1 k2 k3 k5 "ValueError.__new__")) (hN:h.Ns N mN) (hi:mN "__init__" = none) (T:OwnTail h bmVE bm):ExcObj h C
theorem exc_obj {K:PySem.W.Frag} {h:Heap} {C:Addr} (Xk:K.In h) (q:XNo K C):ExcObj h C:=by
  obtain ⟨nm,q,N,bs,bm,hdct,sn,sub,ab,col,dd,k0,k1,k2,k3,k5,ob,l,rfl,t,o,i⟩:=q
  exact ⟨nm,q,N,bs,bm,hdct,sn,sub,ab,col,dd,k0,k1,k2,k3,k5,_,Xk _ _ l,.of_isNs (PySem.W.isNs_of_in Xk o),PySem.W.nsMap_none_of_in Xk o i,PySem.W.tail_of_in Xk t⟩
theorem ps_raise0 {x:Str} {C:Addr} {np cpos:Pos} (hc:X.calm = true) (hex:X.ex = []) (c:XCls X x C) (hdb:autoParam ((x == ("__debug__":Str)) = false) L2.ad._auto_1) :
    PS X (.Raise (some (.Call (.Name x np) [] [] cpos)) none pos) (fun D σ H=>∀ pins s' a,Inv X pins σ H s' → Fly X pins H s' a C none → X.xe (.ref a) s'):=by
  intro pins s σ H D I h
  obtain ⟨nm,q,N,bs,bm,hdct,sn,sub,ab,col,dd,k0,k1,k2,k3,k5,mN,hC,hN,hni,T⟩:=exc_obj I.kIn c.ex
  refine wpAny_Raise_call_subU (C:=C) (nm:=nm) (q:=q) (N:=N) (bs:=bs) (bm:=bm) (hdct:=hdct) (sn:=sn) (sub:=sub) (ab:=ab) (col:=col) (dd:=dd) (k0:=k0) (k1:=k1) (k2:=k2) (k3:=k3) (k5:=k5)
    F.excBase_ValueError (by decide) F.excBase_ValueError (mN:=mN) (T.hasType F.excBase_ValueError.hasBase) (I.ok.hd hc) rfl hni (ld_glob I c.gl c.mg ⟨rfl,?_⟩ hdb)
  refine evalArgs_empty ⟨rfl,Nat.zero_le _,hC,hN,T,fun h' a hm=>?_⟩
  have I':Inv X pins σ H { s with heap:=h' }:=I.kept (t':=s.toks) hm.keeps
  refine L2.o_EAA (hm.there) fun t ht _ _=>?_
  refine L2.o_AA (I.none_of hex hm.new) fun n1 n2 n3=>?_
  exact h pins _ a I' ⟨⟨⟨_,_,ht,rfl,rfl,rfl,.inl rfl⟩,n1,n2⟩,n3⟩
theorem xx_raise0 {x:Str} {C:Addr} {np cpos:Pos} (hc:X.calm = true) (hex:X.ex = []) (c:XCls X x C) (hdb:autoParam ((x == ("__debug__":Str)) = false) L2.ad._auto_1) :
    PSx X O (.Raise (some (.Call (.Name x np) [] [] cpos)) none pos) (fun ρ=>some (.ex (excD x []) ρ)):=(ps_raise0 hc hex c hdb).imp fun D σ H ⟨hid,H0,ρ,ow,o,E,hf,k⟩ pins s' a I fl=>by
  cases hf
  exact k pins s' σ H ow a C none I (Same.refl _) E fl ⟨x,[],[],rfl,c.ns,.inl ⟨rfl,rfl⟩,.nil⟩
end
noncomputable def outX:Option OutX → Option RX
  | some (.rt r)=>some (.ret r)
  | some (.nx _)=>some (.ret .none)
  | some (.ex x _)=>some (.exc x)
  | _=>none
noncomputable def runX (n m:Nat) (B:Rho → Option OutX) (ds:List PyData):Option RX:=if ds.length = n then outX (B (ds.map some ++ List.replicate m none)) else none
theorem fn_autoX {P:Program} {w:World} {K:PySem.W.Frag} {mg:Str → Option Value} {base:Heap} {x qual:Str} {st:Stmt} {f:Addr} {fd:FuncData} {N ps:List Str} {k:Nat} (O:Ow) (F:Fun K x qual st f fd) (S:FnScope N ps (defScope st))
    (hO:∀ i ∈ O.s.map (·.1),ps.length ≤ i) (B:Rho → Option OutX)
    (hbody:∀ (cdv:Value),CdOk K f cdv → ∀ (A:Around) (outer:List Env) (s:Shared) (H:Hp) (E:XK),Room k (A.deeper (envOfC qual (defScope st) s.heap.objs.size f cdv)) →
      PSsx (cxOf (CXe P w) P w K mg base N qual (defScope st) f cdv A outer s H E) O (defBody st) B) :
    FnOk P w K mg base (CXe P w) (k + 1) f fd ps (spX K O.r (runX ps.length (N.length - ps.length) B)):=by
  refine L2.o_EEEEEEEEEAA (F.ex) fun a1 a2 a3 a4 a5 a6 cdv a7 a8 e lk hcd=>?_
  subst e
  refine fn_of lk hcd S (fun vs H Q E h=>?_) (fun A outer s H vs Q E hr h=>?_)
  · refine L2.o_EEEAAA (h) fun hid ds r _ D hf _=>?_
    rw [D.length]
    unfold runX at hf
    split at hf
    · assumption
    · cases hf
  · refine L2.o_EEEAAA (h) fun hid ds r hh D hf q=>?_
    refine ⟨_,hbody cdv ⟨_,_,_,_,lk,rfl⟩ A outer s H E hr,?_⟩
    have hdl:=D.length
    unfold runX at hf
    split at hf
    case isFalse=>cases hf
    rename_i hpl
    rw [← hpl] at hf
    have E0:EnvOk K O hid H (start N vs) H (ds.map some ++ List.replicate (N.length - ds.length) none) []:=start_env D hpl hO hh
    cases hB:B (ds.map some ++ List.replicate (N.length - ds.length) none) with
    | none=>rw [hB] at hf; cases hf
    | some o=>
      rw [hB] at hf
      refine ⟨hid,H,_,[],o,E0,hB,?_⟩
      cases o with
      | rt d=>cases hf; exact fun v as H' s' n Dv=>q v as H' s' n Dv
      | nx ρ'=>cases hf; exact fun σ' H' ow' s' E'=>q .non [] H' E'.baseS (fun p hp=>by cases hp) .non
      | bk ρ'=>cases hf
      | ct ρ'=>cases hf
      | ex x ρ'=>
        cases hf
        exact fun pins s' σ' H' ow' a C od I s2 E' fl hx=>cx_leave I fl.c (q C od H' E'.baseS (hx.mono (del_uni _ _ _)))
end L2
namespace L2
open PySem PySem.Spec PyProof.Rows
variable [Reg]
noncomputable abbrev Cx.wp (X:Cx) (pn:List (Addr × Obj)) (W:Value → Shared → Prop):Cx:={ X with pn:=pn,xe:=W }
noncomputable abbrev Cx.mark (X:Cx) (pn:List (Addr × Obj)) (a:Addr):Cx:={ X with A:=X.A.mark (some (.ref a)),calm:=false,pn:=pn,xe:=fun _ _=>False }
section
variable {X:Cx} {pins pins':List (Addr × Obj)} {σ:St} {H:Hp} {s:Shared} {W:Value → Shared → Prop} {a:Addr}
theorem Inv.wp (I:Inv X pins σ H s) (W:Value → Shared → Prop):Inv (X.wp (X.pn ++ pins) W) [] σ H s:=
  ⟨⟨I.ok.mod,I.ok.kind,I.ok.glob,I.ok.blt,I.ok.above,I.ok.inj,I.ok.has,I.ok.cab,I.ok.hd,I.ok.frames,I.ok.stk,I.ok.exf,I.ok.bs,I.ok.bsz,I.ok.noex,I.ok.exfs,I.ok.funs,I.ok.frf,I.ok.tabs⟩,I.os,I.bare,I.base,I.loc,I.cell,I.free,I.freeC,fun p hp=>I.pin p (by simpa using hp),I.hok,I.len⟩
theorem Inv.unwp (I:Inv (X.wp (X.pn ++ pins) W) pins' σ H s):Inv X pins σ H s:=
  ⟨⟨I.ok.mod,I.ok.kind,I.ok.glob,I.ok.blt,I.ok.above,I.ok.inj,I.ok.has,I.ok.cab,I.ok.hd,I.ok.frames,I.ok.stk,I.ok.exf,I.ok.bs,I.ok.bsz,I.ok.noex,I.ok.exfs,I.ok.funs,I.ok.frf,I.ok.tabs⟩,I.os,I.bare,I.base,I.loc,I.cell,I.free,I.freeC,fun p hp=>I.pin p (List.mem_append_left _ hp),I.hok,I.len⟩
theorem Inv.mark (I:Inv X pins σ H s) (a:Addr):Inv (X.mark (X.pn ++ pins) a) [] σ H s:=
  ⟨⟨I.ok.mod,I.ok.kind,I.ok.glob,I.ok.blt,I.ok.above,I.ok.inj,I.ok.has,I.ok.cab,(fun z=>nomatch z),I.ok.frames,I.ok.stk,I.ok.exf,I.ok.bs,I.ok.bsz,I.ok.noex,I.ok.exfs,I.ok.funs,I.ok.frf,I.ok.tabs⟩,I.os,I.bare,I.base,I.loc,I.cell,I.free,I.freeC,fun p hp=>I.pin p (by simpa using hp),I.hok,I.len⟩
theorem Inv.unmark (hc:X.calm = true → X.A.handled = none) (I:Inv (X.mark (X.pn ++ pins) a) pins' σ H s):Inv X pins σ H s:=
  ⟨⟨I.ok.mod,I.ok.kind,I.ok.glob,I.ok.blt,I.ok.above,I.ok.inj,I.ok.has,I.ok.cab,hc,I.ok.frames,I.ok.stk,I.ok.exf,I.ok.bs,I.ok.bsz,I.ok.noex,I.ok.exfs,I.ok.funs,I.ok.frf,I.ok.tabs⟩,I.os,I.bare,I.base,I.loc,I.cell,I.free,I.freeC,fun p hp=>I.pin p (List.mem_append_left _ hp),I.hok,I.len⟩
theorem SP.unwp {D:Ends} {f:Flow} {s':Shared} (h:SP (X.wp (X.pn ++ pins) W) pins' D f s'):SP X pins D f s':=by
  cases f with
  | next=>obtain ⟨σ',H',I,q⟩:=h; exact ⟨σ',H',I.unwp,q⟩
  | brk=>obtain ⟨σ',H',I,q⟩:=h; exact ⟨σ',H',I.unwp,q⟩
  | cont=>obtain ⟨σ',H',I,q⟩:=h; exact ⟨σ',H',I.unwp,q⟩
  | ret u=>obtain ⟨v,σ',H',I,r,q⟩:=h; exact ⟨v,σ',H',I.unwp,r,q⟩
theorem Inv.land {oe:Obj} {vs:Array Value} {h':Heap} {C:Addr} {od:Option Addr} {fl:Value} (I:Inv X pins σ H s) (F:Fly X pins H s a C od) (he:s.heap.get? a = some oe) (hd:oe.data = .fields vs) (n:Noted (frs X.stack) a oe fl s.heap h') :
    Inv X pins σ (upd H a (fz a (oe.mapFields (·.setIfInBounds 1 (.ref s.heap.objs.size))))) { s with heap:=h' }:=by
  have nL:X.env.locals ≠ a:=fun z=>by
    obtain ⟨m,⟨o,es,ep,ho,hd',_⟩,_⟩:=I.loc
    rw [z,he] at ho; cases ho; rw [hd'] at hd; cases hd
  have nC:∀ x c,X.env.cells.lookup x = some c → c ≠ a:=fun x c e z=>by
    refine L2.o_EEA (I.cell x c e) fun v o ho hd'=>?_
    rw [z,he] at ho; cases ho; rw [hd'] at hd; cases hd
  have n0:∀ b o,X.s₀.heap.get? b = some o → b ≠ a:=fun b o e z=>by rw [z,F.c.new] at e; cases e
  have nH:∀ b u,H b = some u → b ≠ a:=fun b u e z=>by rw [z,F.c.fre] at e; cases e
  have nfs:∀ b,b ≠ X.env.locals → b ∉ X.fs → b ∉ frs X.stack:=fun b h1 h2 z=>(List.mem_cons.mp (I.stkSub b z)).elim h1 h2
  have keepT:∀ c v,s.heap.get? c = some v → H c ≠ none → h'.get? c = some v:=fun c v q1 q2=>n.keep c v (fun z=>q2 (by rw [z]; exact F.c.fre)) (fun z=>q2 (I.stkFree c z)) q1
  have cellK:∀ x c,X.env.cells.lookup x = some c → ∀ v,s.heap.IsCell c v → h'.IsCell c v:=fun x c e v zpat=>by
    refine L2.o_EA (zpat) fun o ho hd=>?_
    refine L2.o_E (n.slot c o (nC x c e) ho) fun sl q=>?_
    exact ⟨_,q,hd⟩
  refine ⟨I.ok,I.os,I.bare,⟨fun b o e nn hb hx=>?_,fun b o e nn hb hx=>?_,fun b o e nn hx=>?_,fun b o e hx=>?_,fun b xs e=>?_,fun b o xs e=>?_,fun b ps e=>?_,fun b e=>?_⟩,?_,fun x c e=>?_,?_,fun x c e=>?_,fun p hp=>?_,fun b u e=>?_,I.len⟩
  · have neL:b ≠ X.env.locals:=Nat.ne_of_lt (Nat.lt_of_lt_of_le (Heap.lt_size e) I.ok.above)
    exact n.keep b o (n0 b o e) (nfs b neL hb) (I.base.keep b o e nn hb hx)
  · refine L2.o_E (I.base.slot b o e nn hb hx) fun sl e1=>?_
    refine L2.o_E (n.slot b _ (n0 b o e) e1) fun sl' e2=>?_
    exact ⟨sl',e2⟩
  · rw [upd_ne (n0 b o e)]; exact I.base.free b o e nn hx
  · refine L2.o_E (I.base.there b o e hx) fun o' e1=>?_
    refine L2.o_E (n.slot b _ (n0 b o e) e1) fun sl' e2=>?_
    exact ⟨_,e2⟩
  · have q:=I.base.tups b xs e; rw [upd_ne (nH b _ q)]; exact q
  · have q:=I.base.frzs b o xs e; rw [upd_ne (nH b _ q)]; exact q
  · refine L2.o_E (I.base.tbls b ps e) fun more q=>?_
    exact ⟨more,by rw [upd_ne (nH b _ q)]; exact q⟩
  · have q:=I.base.tabs b e; rw [upd_ne (nH b _ q)]; exact q
  · refine L2.o_EA (I.loc) fun m hn hl=>?_
    refine L2.o_EEEA (hn) fun o es ep ho r=>?_
    refine L2.o_E (n.slot _ o nL ho) fun sl q=>?_
    refine ⟨m,⟨_,es,ep,q,r⟩,fun i x v e1 e2 e3=>?_⟩
    refine L2.o_EA (hl i x v e1 e2 e3) fun u ru l=>?_
    refine ⟨u,ru,?_⟩
    rcases l with l | ⟨k,c,e,z⟩
    · exact .inl l
    · exact .inr ⟨k,c,e,cellK x c e _ z⟩
  · refine L2.o_E (I.cell x c e) fun v z=>?_
    exact ⟨v,cellK x c e v z⟩
  · rw [upd_ne nL]; exact I.free
  · rw [upd_ne (nC x c e)]; exact I.freeC x c e
  · refine L2.o_AAAA (I.pin p hp) fun e nn ne nf d=>?_
    have npa:=F.pin p hp
    exact ⟨n.keep p.1 p.2 npa (nfs p.1 ne nf) e,by rw [upd_ne npa]; exact nn,ne,nf,d⟩
  · by_cases hb:b = a
    · subst hb
      rw [upd_same] at e; cases e
      exact fz_ok n.exc
    · rw [upd_ne hb] at e
      refine (I.hok b u e).stay (fun c v hc q1=>keepT c v q1 ?_) (fun c q=>?_) (fun c xs q=>?_) fun c o u vs hdv q=>?_
      · rcases hc with rfl | hc
        · rw [e]; simp
        · rw [hc]; simp
      · rw [upd_ne (nH c _ q)]; exact q
      · rw [upd_ne (nH c _ q)]; exact q
      · rw [upd_ne (nH c _ q)]; exact q
theorem Inv.gone {i:Nat} {n:Str} {h':Heap} {v:Option Value} {m:Str → Option Value} {t:Nat} (I:Inv X pins σ H s) (hN:X.N.Nodup) (hi:X.N[i]? = some n) (hk:X.env.kindOf n = some .local)
    (hm:s.heap.Ns X.env.locals m) (hl:∀ (j:Nat) (x:Str) (w:V),X.N[j]? = some x → σ[j]? = some (some w) → Vis X.env.scope x → ∃ u,RelV w u ∧ Look X.env s.heap m x u)
    (hn:h'.Ns X.env.locals (fun x=>if x = n then v else m x)) (hs:Heap.SameBut X.env.locals s.heap h'):Inv X pins (σ.set i none) H { s with heap:=h',toks:=t }:=by
  refine L2.o_EEEA (id hm) fun oL _ _ hoL _=>?_
  have kp:∀ b o,b ≠ X.env.locals → s.heap.get? b = some o → h'.get? b = some o:=fun b o hb q=>(hs.2 b hb).trans q
  refine ⟨I.ok,I.os,I.bare,⟨fun b o e nn hb hx=>?_,fun b o e nn hb hx=>?_,I.base.free,fun b o e hx=>?_,I.base.tups,I.base.frzs,I.base.tbls,I.base.tabs⟩,⟨_,hn,fun j y w e1 e2 e3=>?_⟩,fun x c e=>?_,I.free,I.freeC,fun p hp=>?_,fun b u e=>?_,by simpa using I.len⟩
  · exact kp b o (Nat.ne_of_lt (Nat.lt_of_lt_of_le (Heap.lt_size e) I.ok.above)) (I.base.keep b o e nn hb hx)
  · refine L2.o_E (I.base.slot b o e nn hb hx) fun sl e1=>?_
    exact ⟨sl,kp b _ (Nat.ne_of_lt (Nat.lt_of_lt_of_le (Heap.lt_size e) I.ok.above)) e1⟩
  · refine L2.o_E (I.base.there b o e hx) fun o' e1=>?_
    exact ⟨o',kp b _ (Nat.ne_of_lt (Nat.lt_of_lt_of_le (Heap.lt_size e) I.ok.above)) e1⟩
  · have hji:j ≠ i:=fun z=>by
      subst z
      have hlt:j < σ.length:=by have:=(List.getElem?_eq_some_iff.mp e2).1; simpa using this
      rw [List.getElem?_set_self hlt] at e2
      cases e2
    rw [List.getElem?_set_ne (Ne.symm hji)] at e2
    refine L2.o_EA (hl j y w e1 e2 e3) fun u r q=>?_
    refine ⟨u,r,?_⟩
    have hne:y ≠ n:=fun e=>hji (nodup_ix hN e1 (e ▸ hi))
    rcases q with ⟨k,e⟩ | ⟨k,c,e,z⟩
    · exact .inl ⟨k,by simp [hne,e]⟩
    · exact .inr ⟨k,c,e,z.sameBut hs (I.cne y c e)⟩
  · refine L2.o_E (I.cell x c e) fun w' z=>?_
    exact ⟨w',z.sameBut hs (I.cne x c e)⟩
  · refine L2.o_AAAA (I.pin p hp) fun e nn ne nf d=>?_
    exact ⟨kp p.1 p.2 ne e,nn,ne,nf,d⟩
  · have nbl:∀ c u,H c = some u → c ≠ X.env.locals:=fun c u q z=>by rw [z,I.free] at q; cases q
    refine (I.hok b u e).stay (fun c v hc q1=>kp c v ?_ q1) (fun _ q=>q) fun _ _ q=>q
    rcases hc with rfl | hc
    · exact nbl _ _ e
    · exact nbl _ _ hc
end
theorem EnvOk.unset {K:PySem.W.Frag} {O:Ow} {hid:Addr → Prop} {H0 H:Hp} {σ:St} {ρ:Rho} {ow:List Addr} (e:EnvOk K O hid H0 σ H ρ ow) (i:Nat):EnvOk K O hid H0 (σ.set i none) H (ρ.set i none) ow:=by
  have two:∀ {j:Nat} {d:PyData},(ρ.set i none)[j]? = some (some d) → j ≠ i ∧ ρ[j]? = some (some d):=fun {j d} q=>by
    by_cases hj:j = i
    · subst hj
      have hl:j < ρ.length:=by have:=(List.getElem?_eq_some_iff.mp q).1; simpa using this
      rw [List.getElem?_set_self hl] at q
      cases q
    · rw [List.getElem?_set_ne (Ne.symm hj)] at q
      exact ⟨hj,q⟩
  refine ⟨by simpa using e.len,e.base,fun j x hj q=>?_,?_,e.isl,e.ishL,e.emp⟩
  · refine L2.o_A (two q) fun hne z=>?_
    refine L2.o_EA (e.val j x hj z) fun w a b=>?_
    exact ⟨w,by rw [List.getElem?_set_ne (Ne.symm hne)]; exact a,b⟩
  · refine L2.o_EAA (e.own) fun A a1 a2 a3=>?_
    refine ⟨A,fun j t x hj q=>?_,a2,a3⟩
    refine L2.o_A (two q) fun hne z=>?_
    refine L2.o_EA (a1 j t x hj z) fun w a b=>?_
    exact ⟨w,by rw [List.getElem?_set_ne (Ne.symm hne)]; exact a,b⟩
noncomputable def Out.unset (i:Nat):Out → Out
  | .nx ρ=>.nx (ρ.set i none)
  | .bk ρ=>.bk (ρ.set i none)
  | .ct ρ=>.ct (ρ.set i none)
  | .rt d=>.rt d
noncomputable def clsD:PyData → Str
  | .dict [(.bool true,.str c),_]=>c
  | _=>""
noncomputable def tryF (ie:Nat) (caught:List Str) (Hd:Rho → Option Out) (o:Option OutX):Option Out:=o.bind fun o=>match o with
  | .nx ρ=>some (.nx ρ)
  | .rt d=>some (.rt d)
  | .bk ρ=>some (.bk ρ)
  | .ct ρ=>some (.ct ρ)
  | .ex x ρ=>if caught.contains (clsD x) = true then (Hd (ρ.set ie (some x))).map (Out.unset ie) else none
section
variable {X:Cx} {O:Ow} {body suite:List Stmt} {b₀:Stmt} {n tn:Str} {ie:Nat} {np hpos pos:Pos} {F:Rho → Option OutX} {Hd:Rho → Option Out} {PC:Addr} {caught:List Str}
theorem s_try (hc:X.calm = true) (hex:X.ex = []) (hst:X.stack = X.env :: X.outer) (hfr:X.env.frame = some X.env.locals) (hN:X.N.Nodup) (hi:X.N[ie]? = some n) (hk:X.env.kindOf n = some .local) (hfn:X.fn n = true ∨ X.env.scope.names.lookup n = some .local) (hO:O.s.lookup ie = none)
    (hg:Gl X tn) (hm:X.mg tn = some (.ref PC)) (hcl:∀ cls ∈ caught,∀ C,PySem.W.nsIn X.K mainGlobals cls = some (some (.ref C)) → PySem.W.exmOne X.K (.ref C) (.ref PC) = some true)
    (hb:∀ pn W,PSsx (X.wp pn W) O body F) (hh:∀ pn a,PSsv (X.mark pn a) O (b₀ :: suite) Hd) (hdb:autoParam ((tn == ("__debug__":Str)) = false) L2.ad._auto_1) :
    PSv X O (.Try body [.ExceptHandler (some (.Name tn np)) (some n) (b₀ :: suite) hpos] [] [] pos) (fun ρ=>tryF ie caught Hd (F ρ)):=by
  intro pins s σ H D I h
  obtain ⟨hid,H0,ρ,ow,out,E,hf,k⟩:=h
  obtain ⟨o,g1,g2⟩:=bind_some hf
  have hcls:(X.env.scope.kind == .class || (X.env.scope.kind == .module && X.env.locals != X.env.globals)) = false:=by rw [I.ok.kind]; rfl
  refine wpAny_Try_except ?_
  have key:∀ f s',SP X pins D f s' → (match f with | .next=>wpAny (model X.prog X.w) X.A (execs [] X.env) (SP X pins D) X.xe s' | f=>SP X pins D f s'):=fun f s' q=>by
    cases f with
    | next=>exact wpAny_execs_nil q
    | _=>exact q
  refine wpAny_mono (hb (X.pn ++ pins) _ [] s σ H D (I.wp _) ⟨hid,H0,ρ,ow,o,E,g1,?_⟩) (fun f s' q=>key f s' q.unwp) fun _ _ z=>z
  cases o with
  | nx ρ1=>cases g2; exact k
  | rt d=>cases g2; exact k
  | bk ρ1=>cases g2; exact k
  | ct ρ1=>cases g2; exact k
  | ex x ρ1=>
    simp only at g2
    split at g2
    case isFalse=>cases g2
    rename_i hca
    obtain ⟨oh,g3,rfl⟩:=map_some g2
    intro pins' s1 σ1 H1 ow1 a C od I1w sm E1 fl hx
    have I1:Inv X pins σ1 H1 s1:=I1w.unwp
    have fl1:Fly X pins H1 s1 a C od:=⟨fl.c,fun p hp=>fl.pin p (List.mem_append_left _ hp)⟩
    refine L2.o_EEAAAA (fl1.c.ex) fun oe vs he hcl' hdi hd tr=>?_
    revert hx
    refine fun zqq=>L2.o_EEEAAA zqq fun cls fv fd zq3 hns hfv hDf=>?_
    clear zqq
    subst zq3
    have hst1:=I1.stack
    rw [hst] at hst1
    have hfrm:=I1.ok.frames
    rw [hst] at hfrm
    refine note_exact (L:=X.env.locals) hfrm hst1 hfr he hd tr fun h1 n1=>?_
    have hfs:∀ b ∈ (X.env :: X.outer).filterMap (·.frame),b < s1.heap.objs.size:=fun b hb=>by
      refine L2.o_AEA (hst1.mem hb) fun _ o ho _=>?_
      exact Heap.lt_size ho
    refine down_exact (Heap.lt_size he) hd tr.sz n1 hfs fun h2 n2=>?_
    have n2':Noted (frs X.stack) a oe .none s1.heap h2:=by rw [hst]; exact n2
    have I2:=I1.land fl1 he hd n2'
    have hfresh:H1 a = none:=fl1.c.fre
    have E2:=E1.mono (same_new (o:=fz a (oe.mapFields (·.setIfInBounds 1 (.ref s1.heap.objs.size)))) hfresh)
    have Im:=I2.mark a
    have hmem:cls ∈ caught:=by
      have:caught.contains cls = true:=hca
      exact List.contains_iff_mem.mp this
    have hxm:=hcl cls hmem C hns
    have hty:PySem.W.Looks (model X.prog X.w) h2 (typeOf (.ref a)) (.ref C):=by
      have hc2:(oe.mapFields (·.setIfInBounds 1 (.ref s1.heap.objs.size))).cls = .ref C:=by rw [Obj.cls_mapFields]; exact hcl'
      exact hc2 ▸ (PySem.W.Looks.ld n2.exc).andThen .now
    have hmat:=PySem.W.exm_one I2.kIn hty hxm
    refine wpAny_handleBy_cons (codeAny_handlers_test (ld_glob (pos:=np) Im hg hm ?_ hdb)) (by intro q; cases q)
    refine hmat.at ?_
    show codeAny _ _ (.handlers (.ref a) [.ExceptHandler none (some n) (b₀ :: suite) hpos] X.env) _ _
    refine codeAny_handlers_suite_as ?_
    refine L2.o_EEAA (n2.tb) fun oT ts t2 t3 t4=>?_
    refine wpAny_setFlight_none n2.exc (Obj.data_mapFields hd _) (by simp [tr.sz]) t2 t3 (Array.getElem?_eq_some_iff.mp t4).1 ?_
    rw [show ({ s1 with heap:=h2 }:Shared).heap.update s1.heap.objs.size (Obj.mapFields (·.setIfInBounds 3 Value.none)) = h2 from Heap.update_setField_same h2 _ oT ts 3 .none t2 t3 t4]
    refine store_ok (X:=X.mark (X.pn ++ pins) a) Im hN hi (.inl hk) (v:=.ref a) rfl (fun s3 I3=>?_) hfn
    have Dx:Den X.K (del (upd H1 a (fz a (oe.mapFields (·.setIfInBounds 1 (.ref s1.heap.objs.size))))) (uni hid ow1)) (.ref a) (excD cls (nmD fv ++ fd)):=by
      refine .exc ⟨_,C,_,E1.newAt hfresh,by rw [Obj.cls_mapFields]; exact hcl',Obj.data_mapFields hd _,hns,?_⟩ (hDf.mono (del_mono (same_new hfresh) _))
      rcases hfv with ⟨hfv,h5⟩ | ⟨dx,h5,h6⟩
      · exact .inl ⟨hfv,by rw [Obj.dict_mapFields,hdi]; exact h5⟩
      · exact .inr ⟨dx,by rw [Obj.dict_mapFields,hdi]; exact h5,del_mono (same_new hfresh) _ _ _ h6⟩
    have Es:=E2.set hO Dx
    let D':Ends:={ nx:=fun σ' H'=>D.nx (σ'.set ie none) H',rt:=D.rt,bk:=fun σ' H'=>D.bk (σ'.set ie none) H',ct:=fun σ' H'=>D.ct (σ'.set ie none) H' }
    have sm2:Same (del H (uni hid ow)) (del (upd H1 a (fz a (oe.mapFields (·.setIfInBounds 1 (.ref s1.heap.objs.size))))) (uni hid ow1)):=sm.trans (del_mono (same_new hfresh) _)
    refine wpAny_mono (hh (X.pn ++ pins) a [] s3 _ _ D' I3 ⟨hid,H0,_,ow1,oh,Es,g3,?_⟩) (fun f s4 q=>?_) fun _ _ z=>False.elim z
    · cases oh with
      | nx ρ'=>exact fun σ' H' ow' s' E'=>k _ H' ow' (sm2.trans s') (E'.unset ie)
      | bk ρ'=>exact fun σ' H' ow' s' E'=>k _ H' ow' (sm2.trans s') (E'.unset ie)
      | ct ρ'=>exact fun σ' H' ow' s' E'=>k _ H' ow' (sm2.trans s') (E'.unset ie)
      | rt d=>exact k
    · have fin:∀ {σ4:St} {H4:Hp},Inv (X.mark (X.pn ++ pins) a) [] σ4 H4 s4 → ∀ (P:Shared → Prop),(∀ s5,Inv X pins (σ4.set ie none) H4 s5 → P s5) → wpAny (model X.prog X.w) X.A (do bindName X.env n .none; unbindBehindTheSuite X.env n hpos) (fun _ s5=>P s5) X.xe s4:=fun {σ4 H4} I4 P hP=>by
        have I5:Inv X pins σ4 H4 s4:=Inv.unmark I.ok.hd I4
        refine L2.o_EA (I5.loc) fun m hm4 hl4=>?_
        exact wpAny_nameGoes_keeps hk hm4 hcls fun h' v hn hs=>hP _ (I5.gone hN hi hk hm4 hl4 hn hs)
      show wpAny (model X.prog X.w) X.A (do bindName X.env n .none; unbindBehindTheSuite X.env n hpos) (fun _ s5=>SP X pins D f s5) X.xe s4
      cases f with
      | next=>obtain ⟨σ4,H4,I4,q4⟩:=q; exact fin I4 _ fun s5 I5=>⟨_,H4,I5,q4⟩
      | brk=>obtain ⟨σ4,H4,I4,q4⟩:=q; exact fin I4 _ fun s5 I5=>⟨_,H4,I5,q4⟩
      | cont=>obtain ⟨σ4,H4,I4,q4⟩:=q; exact fin I4 _ fun s5 I5=>⟨_,H4,I5,q4⟩
      | ret u=>obtain ⟨v4,σ4,H4,I4,r4,q4⟩:=q; exact fin I4 _ fun s5 I5=>⟨v4,_,H4,I5,r4,q4⟩
end
end L2
namespace L2
open PySem PySem.Spec PyProof.Rows
variable [Reg]
structure XCD (K:PySem.W.Frag) (mg:Str → Option Value) (x:Str) (C:Addr):Prop where
  mg:mg x = some (.ref C)
  ns:PySem.W.nsIn K mainGlobals x = some (some (.ref C))
  ex:XNo K C
theorem XCD.at {X:Cx} {x:Str} {C:Addr} (c:XCD X.K X.mg x C) (hg:Gl X x):XCls X x C:=⟨hg,c.mg,c.ns,c.ex⟩
noncomputable def Caught (K:PySem.W.Frag) (exs:List Str) (D:Addr):Prop:=∀ cls ∈ exs,∀ C,PySem.W.nsIn K mainGlobals cls = some (some (.ref C)) → PySem.W.exmOne K (.ref C) (.ref D) = some true
noncomputable def excKit (K:PySem.W.Frag) (C:Addr):Bool:=
  PySem.W.findIn K (.ref C) "__getattribute__" == some (some (.builtin "BaseException.__getattribute__")) && PySem.W.findIn K (.ref C) "__getattr__" == some none && PySem.W.mroIn K C (.type "BaseException") == some true &&
  PySem.W.findIn K (.ref C) "__class__" == some (some (.builtin "object.__class__")) && PySem.W.specialIn K (.builtin "object.__class__") "__get__" == some (some (.builtin "getset_descriptor.__get__")) && PySem.W.takesIn K (.builtin "object.__class__") == some true && PySem.W.mroIn K C (.type "object") == some true && PySem.W.hasDictIn K C
structure ExcKit (K:PySem.W.Frag) (C:Addr):Prop where
  ga:PySem.W.findIn K (.ref C) "__getattribute__" = some (some (.builtin "BaseException.__getattribute__"))
  gn:PySem.W.findIn K (.ref C) "__getattr__" = some none
  be:PySem.W.mroIn K C (.type "BaseException") = some true
  cl:PySem.W.findIn K (.ref C) "__class__" = some (some (.builtin "object.__class__"))
  sp:PySem.W.specialIn K (.builtin "object.__class__") "__get__" = some (some (.builtin "getset_descriptor.__get__"))
  tk:PySem.W.takesIn K (.builtin "object.__class__") = some true
  ob:PySem.W.mroIn K C (.type "object") = some true
  hd:PySem.W.hasDictIn K C = true
theorem excKit_of {K:PySem.W.Frag} {C:Addr} (h:excKit K C = true):ExcKit K C:=by
  unfold excKit at h
  simp only [Bool.and_eq_true,beq_iff_eq] at h
  obtain ⟨⟨⟨⟨⟨⟨⟨h1,h2⟩,h3⟩,h4⟩,h5⟩,h6⟩,h7⟩,h8⟩:=h
  exact ⟨h1,h2,h3,h4,h5,h6,h7,h8⟩
section
variable {prog:Program} {w:World} {A:Around} {E:Value → Shared → Prop} {s:Shared} {K:PySem.W.Frag} {x D:Addr} {ox:Obj} {od:Option Obj} {name:Str} {R:Result → Shared → Prop} {Q:Value → Shared → Prop}
theorem exc_entry_val {tk:Tok} {v:Value} {P:Fin → Shared → Prop} (X:K.In s.heap) (I:PySem.W.InstAt s.heap x ox D od) (hf:PySem.W.findObj K D od name = some (.value v)) (h:P (.done (.ret v)) s) :
    wpAny (model prog w) A (Builtin.«object.__getattribute__» ⟨[.ref x,.str name tk],[]⟩) P E s:=by
  obtain ⟨hh,g,d,t,os⟩:=s
  have L0:=I.type (M:=model prog w)
  have L1:=PySem.W.looks_find (M:=model prog w) X I hf
  unfold Builtin.«object.__getattribute__»
  refine wpAny_bind (wpAny_pure ?_)
  refine wpAny_bind (wpAny_pure ?_)
  refine wpAny_bind (L0.at (wpAny_bind (L1.at ?_)))
  exact wpAny_pure h
theorem exc_entry_cls {tk:Tok} {P:Fin → Shared → Prop} (X:K.In s.heap) (I:PySem.W.InstAt s.heap x ox D od) (k:ExcKit K D) (h:P (.done (.ret (.ref D))) s) :
    wpAny (model prog w) A (Builtin.«object.__getattribute__» ⟨[.ref x,.str "__class__" tk],[]⟩) P E s:=by
  have hf:PySem.W.findObj K D od "__class__" = some (.bind (.builtin "getset_descriptor.__get__") (.builtin "object.__class__")):=by
    refine L2.o_EA (PySem.W.any_some k.hd) fun cd hc _=>?_
    unfold PySem.W.findObj
    rw [hc,Option.bind_some,k.cl,Option.bind_some]
    dsimp only
    rw [k.sp,Option.bind_some]
    dsimp only
    rw [k.tk,Option.bind_some]
  obtain ⟨hh,g,d,t,os⟩:=s
  have L0:=I.type (M:=model prog w)
  have L1:=PySem.W.looks_find (M:=model prog w) X I hf
  unfold Builtin.«object.__getattribute__»
  refine wpAny_bind (wpAny_pure ?_)
  refine wpAny_bind (wpAny_pure ?_)
  refine wpAny_bind (L0.at (wpAny_bind (L1.at ?_)))
  show wpAny _ _ (Builtin.ObjectAttr.bindTo _ _ _ _) _ _ _
  unfold Builtin.ObjectAttr.bindTo
  refine wpAny_bind (wpAny_call (PySem.W.class_get (s:=⟨hh,g,d,t,os⟩) X I k.ob ?_))
  exact wpAny_pure h
theorem exc_check {nameV:Value} {P:Unit → Shared → Prop} (X:K.In s.heap) (I:PySem.W.InstAt s.heap x ox D od) (k:ExcKit K D) (h:P () s) :
    wpAny (model prog w) A (checkBuiltinCall "BaseException.__getattribute__" ⟨[.ref x,nameV],[]⟩) P E s:=by
  have hk:builtinKind "BaseException.__getattribute__" = some .slot:=by decide +kernel
  have hsplit:splitId "BaseException.__getattribute__" = some ("BaseException","__getattribute__"):=by decide +kernel
  have ha:=F.args_bexc_ga (.ref x) nameV
  have LI:PySem.W.Looks (model prog w) s.heap (isInstance (.ref x) (.type "BaseException")) true:=(I.type (M:=model prog w)).andThen (PySem.W.looks_mroIn X k.be)
  obtain ⟨hh,g,d,t,os⟩:=s
  simp only [checkBuiltinCall,hk,hsplit]
  refine wpAny_bind (LI.at ?_)
  repeat (any_goals (first | assumption | wp_step))
theorem exc_call {tk:Tok} {v:Value} (X:K.In s.heap) (I:PySem.W.InstAt s.heap x ox D od) (k:ExcKit K D)
    (hent:∀ {A':Around} {E':Value → Shared → Prop} {P:Fin → Shared → Prop},P (.done (.ret v)) s → wpAny (model prog w) A' (Builtin.«object.__getattribute__» ⟨[.ref x,.str name tk],[]⟩) P E' s) (h:R (.ok (.ret v)) s) :
    codeAny (model prog w) A (.call (.builtin "BaseException.__getattribute__") ⟨[.ref x,.str name tk],[]⟩) R s:=by
  refine codeAny_call_builtin F.attr_ValueError.ga.plain F.entry_bexc_ga (exc_check X I k ?_)
  refine hent ?_
  exact h
theorem exc_getBy {tk:Tok} {v:Value} {fill expr:Bool} (X:K.In s.heap) (I:PySem.W.InstAt s.heap x ox D od) (k:ExcKit K D) (hv:PySem.W.handedIn v = true)
    (hent:∀ {A':Around} {E':Value → Shared → Prop} {P:Fin → Shared → Prop},P (.done (.ret v)) s → wpAny (model prog w) A' (Builtin.«object.__getattribute__» ⟨[.ref x,.str name tk],[]⟩) P E' s) (h:Q v s) :
    wpAny (model prog w) A (getAttrBy (.ref x) (.str name tk) fill expr) Q E s:=by
  have FB:=F.attr_ValueError
  have f3:=FB.ga.bind (.ref x)
  have L0:=I.type (M:=model prog w)
  have L1:=PySem.W.looks_findIn (M:=model prog w) X k.ga
  have L2:=PySem.W.looks_findIn (M:=model prog w) X k.gn
  unfold getAttrBy
  refine wpAny_holding (wpAny_bind (L0.at (wpAny_bind (L1.at ?_))))
  show wpAny _ _ (getAttrByItsOwn _ _ _ _ _ _) _ _ _
  unfold getAttrByItsOwn
  refine wpAny_bind (L2.at ?_)
  refine wpAny_bind (wpAny_attempt (wpAny_holding ?_))
  have hx0:(expr && onTheHeap (Value.builtin "BaseException.__getattribute__")) = false:=by cases expr <;> rfl
  unfold callGetattribute
  rw [hx0,if_neg Bool.false_ne_true]
  unfold boundAndCalled
  rw [f3]
  refine wpAny_bind (wpAny_pure ?_)
  refine wpAny_call (exc_call X I k hent ?_)
  show wpAny _ _ (handedOut v) _ _ _
  rw [PySem.W.handedOut_of hv]
  exact wpAny_pure h
theorem kitx_exc (k:ExcKit K D):PySem.W.KitX K (.ref x) (.ref D) (fun h=>PySem.W.InstAt h x ox D od) where
  ty:=fun _ _ _ I=>I.type
  it:=fun _ _ X _=>by
    refine L2.o_EA (PySem.W.any_some k.hd) fun cdD hcD _=>?_
    unfold PySem.W.clsIn at hcD
    split at hcD
    · rename_i c' d' cd' sl' ho
      intro A' Q' E' s' k q
      unfold isType loadHead
      exact wpAny_bind (wpAny_loadPart (k _ _ (X _ _ ho)) (wpAny_pure q))
    · exact L2.no_ns hcD
  ne:=fun h tp dd its n sl X htp=>by
    refine L2.o_EA (PySem.W.any_some k.hd) fun cdD hcD _=>?_
    refine Bool.eq_false_iff.mpr fun q=>?_
    have e:D = tp:=Value.ref.inj (beq_iff_eq.mp q)
    subst e
    unfold PySem.W.clsIn at hcD
    split at hcD
    · rename_i c' d' cd' sl' ho
      have z:=(X _ _ ho).symm.trans htp
      cases z
    · exact L2.no_ns hcD
  ca:=fun {prog w A E Q s} X I h=>by
    unfold getAttr? getAttrBy?
    refine wpAny_bind (wpAny_mkText (wpAny_bind (wpAny_attempt (exc_getBy (s:={ s with toks:=s.toks + 1 }) X I k rfl (fun {A' E' P} hp=>exc_entry_cls (s:={ s with toks:=s.toks + 1 }) X I k hp) ?_))))
    exact wpAny_pure h
end
noncomputable def subX (cls T:Str):Bool:=cls == T || T == "PostError" || T == "ValueError"
noncomputable def strX:PyData → Option Str
  | .str c=>some c
  | _=>none
noncomputable def isTrue:PyData → Bool
  | .bool b=>b
  | _=>false
noncomputable def exL:List (PyData × PyData) → Option Str
  | [p,_]=>if isTrue p.1 = true then strX p.2 else none
  | _=>none
noncomputable def isB (exs:List Str) (T:Str):PyData → Option Bool
  | .none=>some false
  | .dict l=>(exL l).bind fun c=>if exs.contains c = true then some (subX c T) else none
  | _=>none
noncomputable def isC (exs:List Str) (T:Str) (d:PyData):Option PyData:=(isB exs T d).map .bool
structure IsT (K:PySem.W.Frag) (mg:Str → Option Value) (exs:List Str) (T:Str) (D:Addr):Prop where
  mg:mg T = some (.ref D)
  ex:∀ cls ∈ exs,∀ C,PySem.W.nsIn K mainGlobals cls = some (some (.ref C)) → excKit K C = true ∧ PySem.W.kitOne K (.ref C) (.ref D) = some (subX cls T)
  no:PySem.W.kitOne K (.type "NoneType") (.ref D) = some false
structure IsV (K:PySem.W.Frag) (exs:List Str):Prop where
  ex:∀ cls ∈ exs,∀ C,PySem.W.nsIn K mainGlobals cls = some (some (.ref C)) → excKit K C = true ∧ PySem.W.kitOne K (.ref C) (.type "ValueError") = some true
  no:PySem.W.kitOne K (.type "NoneType") (.type "ValueError") = some false
noncomputable def rIsc (K:PySem.W.Frag) (exs:List Str) (T:Str) (c:V):List V → Hp → VK → Prop:=fun xs H Q=>∃ x d r,xs = [x,c] ∧ Den K H x d ∧ isC exs T d = some (.bool r) ∧ Q (.bl r) H
theorem inst_exc {X:Cx} {pins:List (Addr × Obj)} {σ:St} {H:Hp} {s:Shared} {e:Addr} {cls:Str} {fv:List (Str × V)} (I:Inv X pins σ H s) (h:ExcV X.K H e cls fv) :
    ∃ C ox od,PySem.W.InstAt s.heap e ox C od ∧ PySem.W.nsIn X.K mainGlobals cls = some (some (.ref C)):=by
  refine L2.o_EEEAAAA (h) fun oe C vs h1 h2 h3 h4 h5=>?_
  refine L2.o_A ((show ObjOk X.prog X.w H s.heap e (.frz oe _) from I.hok e _ h1)) fun q _=>?_
  have hn:PySem.W.notCls oe = true:=by unfold PySem.W.notCls; rw [h3]
  rcases h5 with ⟨_,h5⟩ | ⟨dx,h5,h6⟩
  · exact L2.i_EEEA (C) (oe) (none) (⟨q,h2,hn,by rw [h5]; trivial⟩) (h4)
  · refine L2.o_E ((I.hok dx _ h6).there) fun o ho=>?_
    exact L2.i_EEEA (C) (oe) (some o) (⟨q,h2,hn,by rw [h5]; exact ho⟩) (h4)
theorem call_isc {X:Cx} {exs:List Str} {T:Str} {c:V} {cv:Value} (rc:RelV c cv) (rc1:∀ u,RelV c u → u = cv)
    (hx:∀ cls ∈ exs,∀ C,PySem.W.nsIn X.K mainGlobals cls = some (some (.ref C)) → excKit X.K C = true ∧ PySem.W.kitOne X.K (.ref C) cv = some (subX cls T)) (hno:PySem.W.kitOne X.K (.type "NoneType") cv = some false) :
    CallR X (.builtin "isinstance") (rIsc X.K exs T c):=by
  intro pins s σ H xs us Q I r h
  revert h
  refine fun zqq=>L2.o_EEEAAA zqq fun x d r1 zq3 D hd q=>?_
  clear zqq
  subst zq3
  refine L2.o_EEAA (r.two) fun u c' zq2 rx rc'=>?_
  subst zq2
  cases rc1 c' rc'
  cases D with
  | non=>
    cases hd
    cases (show u = Value.none from rx)
    exact PySem.W.kia_one PySem.W.kitx_none I.kIn True.intro hno (fun z=>nomatch z) fun tk=>⟨.bl _,H,I.tok tk,rfl,q⟩
  | @exc e cls fv fd hv hr=>
    have hd:(if exs.contains cls = true then some (subX cls T) else none).map PyData.bool = some (.bool r1):=hd
    by_cases hm:exs.contains cls = true
    case neg=>rw [if_neg hm] at hd; exact L2.no_ns hd
    rw [if_pos hm] at hd
    cases hd
    cases (show u = Value.ref e from rx)
    refine L2.o_EEEA (inst_exc I hv) fun C ox od ia hn=>?_
    refine L2.o_A (hx cls (List.contains_iff_mem.mp hm) C hn) fun k1 k2=>?_
    exact PySem.W.kia_one (kitx_exc (excKit_of k1)) I.kIn ia k2 (fun z=>nomatch z) fun tk=>⟨.bl _,H,I.tok tk,rfl,q⟩
  | _=>exact L2.no_ns hd
section
variable {X:Cx} {O:Ow} {e:Expr} {f:Rho → Option PyData} {p p2 pos:Pos} {exs:List Str} {T:Str} {D:Addr}
theorem isC_bool {d r:PyData} (h:isC exs T d = some r):∃ b,r = .bool b:=by
  obtain ⟨b,_,rfl⟩:=map_some h
  exact ⟨b,rfl⟩
theorem isc_imp {c:V} (hc:True):∀ σ H Q,tV X.K O (fun ρ=>(f ρ).bind (isC exs T)) σ H Q → tCB (rIsc X.K exs T c) (tCons (tR X.K O f) (tCons (tC c) tNil)) σ H Q:=fun σ H Q zpat=>by
  obtain ⟨hid,H0,ρ,ow,r,E,hf,k⟩:=zpat
  obtain ⟨d,g1,g2⟩:=bind_some hf
  refine L2.o_E (isC_bool g2) fun b zq1=>?_
  subst zq1
  exact ⟨hid,H0,ρ,ow,d,E,g1,fun v H' s D=>⟨v,d,b,rfl,D.mono (del_same _ _),g2,k _ H' s (.bl _)⟩⟩
theorem v_isiC (I:IsT X.K X.mg exs T D) (he:PR X O e f) (hg:Gl X "isinstance") (hm:X.mg "isinstance" = none) (hgT:Gl X T) (hd:autoParam ((T == ("__debug__":Str)) = false) L2.ad._auto_1)
    (h1:autoParam (starEach [e,.Name T p2] X.env = (false,eval e X.env) :: starEach [.Name T p2] X.env) L2.ar._auto_1) (h2:autoParam (starEach [.Name T p2] X.env = (false,eval (.Name T p2) X.env) :: starEach [] X.env) L2.ar._auto_1)
    (hpl:autoParam ((backTo pos (starEach [.Name T p2] X.env)).any (·.1) = false) L2.ar._auto_1):PV X O (.Call (.Name "isinstance" p) [e,.Name T p2] [] pos) (fun ρ=>(f ρ).bind (isC exs T)):=
  (pe_callB (call_isc (c:=.ref D) (cv:=.ref D) rfl (fun u r=>r) I.ex I.no) hg hm PyProof.Rows.boot_isinstance (pa_cons he (pa_cons (pe_glob (v:=.ref D) hgT I.mg rfl hd) pa_nil h2) h1) (by decide) (by decide) h1 hpl).imp (isc_imp trivial)
theorem bt_ValueError:bootBuiltins "ValueError" = some (.type "ValueError"):=by decide +kernel
theorem v_isiV (I:IsV X.K exs) (he:PR X O e f) (hg:Gl X "isinstance") (hm:X.mg "isinstance" = none) (hgT:Gl X "ValueError") (hmT:X.mg "ValueError" = none) (hvT:bootBuiltins "ValueError" = some (.type "ValueError"))
    (h1:autoParam (starEach [e,.Name "ValueError" p2] X.env = (false,eval e X.env) :: starEach [.Name "ValueError" p2] X.env) L2.ar._auto_1) (h2:autoParam (starEach [.Name "ValueError" p2] X.env = (false,eval (.Name "ValueError" p2) X.env) :: starEach [] X.env) L2.ar._auto_1)
    (hpl:autoParam ((backTo pos (starEach [.Name "ValueError" p2] X.env)).any (·.1) = false) L2.ar._auto_1):PV X O (.Call (.Name "isinstance" p) [e,.Name "ValueError" p2] [] pos) (fun ρ=>(f ρ).bind (isC exs "ValueError")):=
  (pe_callB (call_isc (T:="ValueError") (c:=.ty "ValueError") (cv:=.type "ValueError") rfl (fun u r=>r) (fun cls h C hC=>⟨(I.ex cls h C hC).1,by rw [(I.ex cls h C hC).2]; simp [subX]⟩) I.no) hg hm PyProof.Rows.boot_isinstance (pa_cons he (pa_cons (pe_bltn (v:=.ty "ValueError") hgT hmT hvT rfl (by decide) (by decide)) pa_nil h2) h1) (by decide) (by decide) h1 hpl).imp (isc_imp trivial)
end
end L2
namespace L2
open PySem PySem.Spec PyProof.Rows
variable [Reg]
noncomputable def flatD:PyData → Bool
  | .none=>true
  | .bool _=>true
  | .int _=>true
  | .str _=>true
  | _=>false
noncomputable def eqF:PyData → PyData → Bool
  | .none,.none=>true
  | .bool a,.bool b=>a == b
  | .bool a,.int b=>(if a then 1 else 0) == b
  | .int a,.bool b=>a == (if b then 1 else 0)
  | .int a,.int b=>a == b
  | .str a,.str b=>a == b
  | _,_=>false
theorem flat_den {K:PySem.W.Frag} {H:Hp} {v:V} {d:PyData} (h:Den K H v d) (f:flatD d = true):flatV v = true ∧ Sc v d:=by
  cases h with
  | non=>exact ⟨rfl,.non⟩
  | bl b=>exact ⟨rfl,.bl b⟩
  | int i=>exact ⟨rfl,.int i⟩
  | str x=>exact ⟨rfl,.str x⟩
  | _=>exact L2.no_ft f
theorem eqV_F {v w:V} {d e:PyData} (h:Sc v d) (k:Sc w e):eqV v w = eqF d e:=by
  cases h <;> cases k <;> rfl
theorem flat_denL {K:PySem.W.Frag} {H:Hp} {w:V} {e:PyData} (k:Sc w e):∀ {vs:List V} {ds:List PyData},DenL K H vs ds → ds.all flatD = true → vs.all flatV = true ∧ vs.map (fun v=>eqV v w) = ds.map (fun d=>eqF d e):=by
  intro vs ds h
  refine h.ind (M:=fun vs ds=>ds.all flatD = true → vs.all flatV = true ∧ vs.map (fun v=>eqV v w) = ds.map (fun d=>eqF d e)) (fun _=>⟨rfl,rfl⟩) ?_
  · intro v d vs ds h _ ih f
    rw [List.all_cons,Bool.and_eq_true] at f
    refine L2.o_A (flat_den h f.1) fun a1 a2=>?_
    refine L2.o_A (ih f.2) fun b1 b2=>?_
    exact ⟨by rw [List.all_cons,a1,b1]; rfl,by rw [List.map_cons,List.map_cons,b2,eqV_F a2 k]⟩
theorem map_eqU {x:V} {xs:List V} {us:List Value} (h:Vals xs us):xs.all flatV = true → us.map (eqU x) = xs.map fun y=>eqV y x:=by
  induction h with
  | nil=>exact fun _=>rfl
  | cons r t ih=>
    intro f
    rw [List.all_cons,Bool.and_eq_true] at f
    rw [List.map_cons,List.map_cons,eqU_of r f.1,ih f.2]
theorem findIdx_map {α:Type} (p:α → Bool):∀ xs:List α,(xs.map p).findIdx? id = xs.findIdx? p
  | []=>rfl
  | x :: r=>by
    rw [List.map_cons,List.findIdx?_cons,List.findIdx?_cons,findIdx_map p r]
    rfl
theorem countP_map' {α:Type} (p:α → Bool) (xs:List α):(xs.map p).countP id = xs.countP p:=by
  rw [List.countP_map]; rfl
section
variable {X:Cx} {O:Ow} {a b:Expr} {fa fb:Rho → Option PyData} {apos cpos pos p:Pos}
noncomputable def rIdx (K:PySem.W.Frag):V → List V → Hp → VK → Prop:=fun x vs H Q=>∃ l y xs j,x = .ref l ∧ vs = [y] ∧ SqL K H l xs ∧ flatV y = true ∧ xs.all flatV = true ∧ (xs.map fun z=>eqV z y).findIdx? id = some j ∧ Q (.int (j:Nat)) H
theorem mt_index:MtR X "list.index" (rIdx X.K):=by
  intro pins s σ H x vs v us Q I rx rv h
  revert h
  refine fun zqq=>L2.o_EEEEAAAAAA zqq fun l y xs j zq4 zq5 hq fy fs hj q=>?_
  clear zqq
  subst zq4
  subst zq5
  cases rx
  refine L2.o_EA (rv.one) fun u zq1 ru=>?_
  subst zq1
  refine L2.o_EAA (I.list hq) fun its r pl hz=>?_
  obtain ⟨⟨cls,dd,data,sl⟩,ho,hc,n,hd⟩:=pl.isList
  simp only at hc hd
  subst hc hd
  rw [← map_eqU r fs,findIdx_map] at hj
  have hjl:j < its.length:=(List.findIdx?_eq_some_iff_findIdx_eq.mp hj).1
  have hl:=r.length
  have hz':sizeLine < 2 ^ 62:=by decide
  refine L2.o_E (List.findIdx?_eq_some_iff_getElem.mp hj) fun h1 h2=>?_
  refine call_meets PySem.F.slot_list_index ⟨_,ho,rfl⟩ PySem.F.entry_list_index (PySem.F.args_list_index_2 _ _)
    (SeqAt.list_indexAt l its.toArray n dd sl u (eqU y) j (by simpa using hjl) (by (clear h2 h1; omega)) (by simpa using h2.1) (fun m hm hlt=>by
      have:=h2.2 m hlt
      simpa using this)) ⟨ho,fun w hw=>mem_eqAt ru fy r fs w (by simpa using hw),⟨.int (j:Nat),H,I.tok _,⟨_,rfl⟩,q⟩⟩
noncomputable def indexD:PyData → PyData → Option PyData
  | .list ds,e=>if (ds.all flatD && flatD e) = true then ((ds.map fun d=>eqF d e).findIdx? id).map fun j=>.int (j:Nat) else none
  | _,_=>none
theorem v_index (ha:PR X O a fa) (hb:PR X O b fb) (hbase:autoParam (attributeBase a "index" X.env (eval a X.env) = eval a X.env) L2.ar._auto_1)
    (hfew:autoParam (((backTo cpos (starEach [b] X.env)).all (fun x=>!x.1) && (backToKw cpos (keywordEach [] X.env)).all (fun x=>x.1.isSome) && decide ([b].length + ([]:List Keyword).length + (if ([]:List Keyword).isEmpty then 0 else 1) < 30)) = true) L2.ar._auto_1)
    (hline:autoParam ((apos.endLine == cpos.line) = true) L2.ar._auto_1) (hst:autoParam (starEach [b] X.env = (false,eval b X.env) :: starEach [] X.env) L2.ar._auto_1) (hplain:autoParam ((backTo cpos (starEach [] X.env)).any (·.1) = false) L2.ar._auto_1) :
    PV X O (.Call (.Attribute a "index" apos) [b] [] cpos) (fun ρ=>bind2 (fa ρ) (fb ρ) indexD):=
  (pe_bm PySem.F.plainAttrs_list PySem.F.slot_list_index PySem.F.type_list_index mt_index ha (pa_cons hb pa_nil hst) hbase hfew hline hst hplain).imp fun σ H Q zpat=>by
    obtain ⟨hid,H0,ρ,ow,r,E,hf,k⟩:=zpat
    obtain ⟨d,e,h1,h2,h3⟩:=bind2_some hf
    unfold indexD at h3
    split at h3
    case h_2=>cases h3
    split at h3
    case isFalse=>cases h3
    rename_i ds hfl
    rw [Bool.and_eq_true] at hfl
    obtain ⟨j,h4,rfl⟩:=map_some h3
    refine ⟨hid,H0,ρ,ow,_,E,h1,fun x H1 s1 D1=>?_⟩
    obtain ⟨l,xs,rfl,q1,r1⟩:=den_lst D1
    refine ⟨.inl ⟨rfl,xs,(del_same _ _).seq q1⟩,hid,H0,ρ,ow,e,E.mono s1,h2,fun y H2 s2 D2=>?_⟩
    refine L2.o_A (flat_den D2 hfl.2) fun f1 f2=>?_
    refine L2.o_A (flat_denL f2 r1 hfl.1) fun g1 g2=>?_
    exact L2.i_EEEEAAAAAA (l) (y) (xs) (j) (rfl) (rfl) (s2.seq ((del_same _ _).seq q1)) (f1) (g1) (by rw [g2]; exact h4) (k _ H2 (s1.trans s2) (.int _))
noncomputable def rCnt (K:PySem.W.Frag):V → List V → Hp → VK → Prop:=fun x vs H Q=>∃ l y xs,x = .ref l ∧ vs = [y] ∧ SqL K H l xs ∧ flatV y = true ∧ xs.all flatV = true ∧ Q (.int ((xs.map fun z=>eqV z y).countP id:Nat)) H
theorem mt_count:MtR X "list.count" (rCnt X.K):=by
  intro pins s σ H x vs v us Q I rx rv h
  revert h
  refine fun zqq=>L2.o_EEEAAAAA zqq fun l y xs zq3 zq4 hq fy fs q=>?_
  clear zqq
  subst zq3
  subst zq4
  cases rx
  refine L2.o_EA (rv.one) fun u zq1 ru=>?_
  subst zq1
  refine L2.o_EAA (I.list hq) fun its r pl hz=>?_
  obtain ⟨⟨cls,dd,data,sl⟩,ho,hc,n,hd⟩:=pl.isList
  simp only at hc hd
  subst hc hd
  refine call_meets PySem.F.slot_list_count ⟨_,ho,rfl⟩ PySem.F.entry_list_count (PySem.F.args_list_count_2 _ _) (SeqAt.list_countAt l its.toArray n dd sl u (eqU y)) ⟨ho,fun w hw=>mem_eqAt ru fy r fs w (by simpa using hw),?_⟩
  rw [show its.toArray.toList = its from rfl,← countP_map',map_eqU r fs]
  exact ⟨.int _,H,I.tok _,⟨_,rfl⟩,q⟩
noncomputable def countD:PyData → PyData → Option PyData
  | .list ds,e=>if (ds.all flatD && flatD e) = true then some (.int ((ds.map fun d=>eqF d e).countP id:Nat)) else none
  | _,_=>none
theorem v_count (ha:PR X O a fa) (hb:PR X O b fb) (hbase:autoParam (attributeBase a "count" X.env (eval a X.env) = eval a X.env) L2.ar._auto_1)
    (hfew:autoParam (((backTo cpos (starEach [b] X.env)).all (fun x=>!x.1) && (backToKw cpos (keywordEach [] X.env)).all (fun x=>x.1.isSome) && decide ([b].length + ([]:List Keyword).length + (if ([]:List Keyword).isEmpty then 0 else 1) < 30)) = true) L2.ar._auto_1)
    (hline:autoParam ((apos.endLine == cpos.line) = true) L2.ar._auto_1) (hst:autoParam (starEach [b] X.env = (false,eval b X.env) :: starEach [] X.env) L2.ar._auto_1) (hplain:autoParam ((backTo cpos (starEach [] X.env)).any (·.1) = false) L2.ar._auto_1) :
    PV X O (.Call (.Attribute a "count" apos) [b] [] cpos) (fun ρ=>bind2 (fa ρ) (fb ρ) countD):=
  (pe_bm PySem.F.plainAttrs_list PySem.F.slot_list_count PySem.F.type_list_count mt_count ha (pa_cons hb pa_nil hst) hbase hfew hline hst hplain).imp fun σ H Q zpat=>by
    obtain ⟨hid,H0,ρ,ow,r,E,hf,k⟩:=zpat
    obtain ⟨d,e,h1,h2,h3⟩:=bind2_some hf
    unfold countD at h3
    split at h3
    case h_2=>cases h3
    split at h3
    case isFalse=>cases h3
    rename_i ds hfl
    rw [Bool.and_eq_true] at hfl
    obtain rfl:=Option.some.inj h3
    refine ⟨hid,H0,ρ,ow,_,E,h1,fun x H1 s1 D1=>?_⟩
    obtain ⟨l,xs,rfl,q1,r1⟩:=den_lst D1
    refine ⟨.inl ⟨rfl,xs,(del_same _ _).seq q1⟩,hid,H0,ρ,ow,e,E.mono s1,h2,fun y H2 s2 D2=>?_⟩
    refine L2.o_A (flat_den D2 hfl.2) fun f1 f2=>?_
    refine L2.o_A (flat_denL f2 r1 hfl.1) fun g1 g2=>?_
    exact L2.i_EEEAAAAA (l) (y) (xs) (rfl) (rfl) (s2.seq ((del_same _ _).seq q1)) (f1) (g1) (by rw [g2]; exact k _ H2 (s1.trans s2) (.int _))
theorem call_sum (hc:X.calm = true):CallR X (.builtin "sum") (fun xs H Q=>∃ (a:Addr) (ns:List Int),xs = [.ref a] ∧ SqL X.K H a (ns.map V.int) ∧ Q (.int ns.sum) H):=by
  intro pins s σ H xs us Q I r h
  revert h
  refine fun zqq=>L2.o_EEAA zqq fun q ns zq2 hq k=>?_
  clear zqq
  subst zq2
  refine L2.o_EA (vals1 r) fun u zq1 rx=>?_
  subst zq1
  cases rx
  refine L2.o_EAA (I.list hq) fun its r' pl hz=>?_
  have hI:=intsAre_of r'
  have hl:=pl.isList
  refine L2.o_E (hI.allInts.items) fun xs hx=>?_
  have hn:numsOf its.toArray.toList = ns:=by rw [show its.toArray.toList = its from rfl,hI.numsOf]
  rw [hx] at hl hn
  rw [nums_intItems] at hn
  refine sum_intListG (I.ok.hd hc) hl fun h' tk t' hk=>?_
  rw [preSum_eq,List.take_of_length_le (by simp),hn]
  exact ⟨.int _,H,I.kept (t':=tk) hk,⟨t',rfl⟩,k⟩
noncomputable def sumD:PyData → Option PyData
  | .list ds=>(intsO ds).map fun ns=>.int ns.sum
  | _=>none
theorem v_sum (hc:X.calm = true) (hg:Gl X "sum") (hm:X.mg "sum" = none) (ha:PR X O a fa) (he:autoParam (starEach [a] X.env = (false,eval a X.env) :: starEach [] X.env) L2.ar._auto_1) (hpl:autoParam ((backTo pos (starEach [] X.env)).any (·.1) = false) L2.ar._auto_1)
    (hv:bootBuiltins "sum" = some (.builtin "sum"):=by decide +kernel):PV X O (.Call (.Name "sum" p) [a] [] pos) (fun ρ=>(fa ρ).bind sumD):=
  (pe_callB (call_sum hc) hg hm hv (pa_cons ha pa_nil he) (by decide) (by decide) he hpl).imp fun σ H Q zpat=>by
    obtain ⟨hid,H0,ρ,ow,r,E,hf,k⟩:=zpat
    obtain ⟨d,h1,h2⟩:=bind_some hf
    refine ⟨hid,H0,ρ,ow,d,E,h1,fun x H1 s1 D1=>?_⟩
    unfold sumD at h2
    split at h2
    case h_2=>cases h2
    obtain ⟨ns,h3,rfl⟩:=map_some h2
    have e:=intsO_some h3
    subst e
    obtain ⟨q,vs,rfl,q1,r1⟩:=den_lst D1
    have e2:=r1.isInts
    subst e2
    exact L2.i_EEAA (q) (ns) (rfl) ((del_same _ _).seq q1) (k _ H1 s1 (.int _))
end
end L2
namespace L2
open PySem PySem.Spec PyProof.Rows
variable [Reg]
section
variable {K:PySem.W.Frag} {O O':Ow} {hid:Addr → Prop} {H0 H H':Hp} {σ:St} {ρ:Rho} {ow:List Addr}
end
section
variable {X:Cx} {O O':Ow} {st:Stmt} {rest:List Stmt} {F G:Rho → Option Out} {e:Expr} {f:Rho → Option PyData} {pos:Pos}
end
section
variable {X:Cx} {O:Ow} {i:Nat} {x:Str} {pos' spos:Pos} {elt tg iter:Expr} {ifs:List Expr} {scope:Scope} {pos:Pos} {fi:Rho → Option (List PyData)} {S:PyData → Rho → Option Rho} {ft:Rho → Option Bool} {fe:Rho → Option PyData} {k:Nat} {N:List Str} {ix:List Nat}
end
section
variable {X:Cx} {O:Ow} {i:Nat}
end
end L2
namespace L2
open PySem PySem.Spec PyProof.Rows
variable [Reg]
section
variable {K:PySem.W.Frag} {O:Ow} {hid:Addr → Prop} {H0 H H' C C':Hp} {σ:St} {ρ:Rho} {ow:List Addr}
theorem DenOs.snoc {t:Ty} {v:V} {d:PyData} {bs:List Addr} (h2:DenO K H C t v d bs) {vs:List V} {ds:List PyData} {as:List Addr} (h:DenOs K H C t vs ds as):(∀ p ∈ as,p ∉ bs) → DenOs K H C t (vs ++ [v]) (ds ++ [d]) (as ++ bs):=
  DenOs.ind (P:=fun vs ds as=>(∀ p ∈ as,p ∉ bs) → DenOs K H C t (vs ++ [v]) (ds ++ [d]) (as ++ bs)) (fun _=>by
    have:=DenOs.cons h2 (.nil (K:=K) (H:=H) (C:=C) (t:=t)) (fun p _ z=>absurd z List.not_mem_nil)
    rw [List.append_nil] at this
    exact this) (fun h r n ih q=>by
    rw [List.append_assoc]
    exact .cons h (ih fun p hp=>q p (List.mem_append_right _ hp)) fun p hp z=>(List.mem_append.mp z).elim (n p hp) (q p (List.mem_append_left _ hp))) h
theorem EnvOk.hideN (E:EnvOk K O0 hid H0 σ H ρ []) (s:Same H H') {bs:List Addr} {hid':Addr → Prop} (hb:∀ b,hid' b → hid b ∨ b ∈ bs) (hf:∀ p ∈ bs,H p = none) (hl:∀ b,hid' b → ∃ vs,H' b = some (.lst vs)):EnvOk K O0 hid' H0 σ H' ρ []:=by
  have E1:=E.mono s
  refine ⟨E1.len,E1.base,fun i d hi q=>?_,⟨fun _=>[],fun i t d h=>(by cases h),fun i j p _ h=>(by cases h),fun i p h=>(by cases h)⟩,fun l h=>(by cases h),hl,fun _=>rfl⟩
  refine L2.o_EA (E.val i d hi q) fun v h1 h2=>?_
  refine ⟨v,h1,h2.mono fun b o e=>?_⟩
  rw [uni_nil] at e
  by_cases hh:hid b
  · rw [del_in hh] at e; cases e
  · rw [del_out hh] at e
    rw [del_out fun z=>?_]
    · exact s _ _ e
    · rcases z with z | z
      · rcases hb b z with z | z
        · exact hh z
        · rw [hf b z] at e; cases e
      · cases z
inductive CIt (K:PySem.W.Frag) (hid:Addr → Prop) (H H1:Hp) (D:Addr) (T:Ty) (S:PyData → Rho → Option Rho) (ft:Rho → Option Bool) (fe:Rho → Option PyData) (ds out:List PyData) (i:Nat) (τ:St) (H2:Hp):Prop
  | mk (ρ2:Rho) (ys:List V) (done rest:List PyData) (as:List Addr) (E2:EnvOk K O0 (uni hid (D :: as)) H τ H2 ρ2 []) (s2:Same H1 H2) (hy:H2 D = some (.lst ys)) (hd:DenOs K H2 (del H2 (uni hid (D :: as))) T ys done as) (hn:∀ p ∈ as,H1 p = none ∧ p ≠ D) (hr:compD S ft fe (ds.drop i) ρ2 = some rest) (ho:out = done ++ rest) (hl:done.length ≤ i):CIt K hid H H1 D T S ft fe ds out i τ H2
theorem comp_impT {T:Ty} {fi:Rho → Option (List PyData)} {S:PyData → Rho → Option Rho} {ft:Rho → Option Bool} {fe:Rho → Option PyData} {k:Nat} {ix:List Nat} (h0:O.s = []):∀ σ H Q,tFt K O (.lst T) (fun ρ=>(compO S ft fe (fi ρ) (frees k ix ρ)).map .list) σ H Q → tComp (tIr K O fi) (tG K O0 S) (tT K O0 ft) (tFt K O0 T fe) (stComp k ix) σ H Q:=fun σ H Q zpat=>by
  obtain ⟨hid,H0,ρ,ow,out',E,hf',q⟩:=zpat
  obtain ⟨out,hf,rfl⟩:=map_some hf'
  obtain rfl:ow = []:=E.emp h0
  obtain ⟨ds,h1,h2⟩:=bind_some hf
  split at h2
  case isFalse=>cases h2
  rename_i hlen
  have hz:ds.length ≤ 1000:=of_decide_eq_true hlen
  have hzl:1000 < sizeLine:=by decide
  refine ⟨hid,H0,ρ,[],ds,E,h1,fun J H1 s1 G D hD=>?_⟩
  have hDH:H D = none:=s1.free hD
  refine ⟨fun i m τ H2=>m = ds.length - i ∧ i ≤ ds.length ∧ CIt K hid H H1 D T S ft fe ds out i τ H2,
    ⟨ds.length,(Nat.sub_zero _).symm,Nat.zero_le _,.mk (frees k ix ρ) [] [] out [] ?_ (same_new hD) upd_same .nil (fun p hp=>absurd hp List.not_mem_nil) h2 rfl (Nat.le_refl _)⟩,?_⟩
  · refine frees_ok E (s1.trans (same_new hD)) (del_new (s1.trans (same_new hD)) hDH fun b z=>by rcases z with z | z; exact .inl z; exact .inr (by simpa using z)) (fun b z=>?_) k ix
    rcases z with z | z
    · refine L2.o_E (E.ishL b z) fun vs e=>?_
      exact ⟨vs,(s1.trans (same_new hD)) _ _ e⟩
    · have z:b = D:=by simpa using z
      rw [z,upd_same]
      exact ⟨_,rfl⟩
  · rintro i m τ H2 ⟨rfl,hi',⟨ρ2,ys,done,rest,as,E2,s2,hy,hd,hnew,hr,ho,hdl⟩⟩
    have keep:Same (del H1 hid) H2:=(del_same _ _).trans s2
    have into:Same (del H1 hid) (del H2 (uni hid (D :: as))):=fun b o e=>by
      by_cases hh:hid b
      · rw [del_in hh] at e; cases e
      · rw [del_out hh] at e
        rw [del_out fun z=>?_]
        · exact s2 _ _ e
        · rcases z with z | z
          · exact hh z
          · rcases List.mem_cons.mp z with z | z
            · rw [z,hD] at e; cases e
            · rw [(hnew b z).1] at e; cases e
    by_cases hlt:i < ds.length
    · have hdr:ds.drop i = ds[i] :: ds.drop (i + 1):=List.drop_eq_getElem_cons hlt
      rw [hdr,compD] at hr
      obtain ⟨ρ3,g1,hr⟩:=bind_some hr
      obtain ⟨c,g2,hr⟩:=bind_some hr
      refine .inr ⟨G.go H2 i keep hlt,fun τ' H'=>CIt K hid H H1 D T S ft fe ds out (i + 1) τ' H',
        fun τ' H' z=>⟨ds.length - (i + 1),by (clear z g1 hdr hdl hi' hzl hz hlen; omega),rfl,hlt,z⟩,fun x H3 y=>?_⟩
      have step:∃ s23:Same H2 H3,Den K (del H3 (uni (uni hid (D :: as)) [])) x ds[i]:=by
        rw [uni_nil]
        rcases G.yld H2 i x H3 ds[i] keep (by simp [hlt]) y with ⟨rfl,Dx⟩ | ⟨p,vs,es,hp,rfl,rfl,hde,De⟩
        · exact ⟨Same.refl _,Dx.mono into⟩
        · refine ⟨same_new hp,?_⟩
          rw [hde]
          have np:¬ uni hid (D :: as) p:=fun z=>E2.fresh hp (.inl z)
          exact .tup (SqT.of (by rw [del_out np,upd_same])) ((De.mono into).mono (del_mono (same_new hp) _))
      refine L2.o_E (step) fun s23 Dx=>?_
      refine ⟨uni hid (D :: as),H,ρ2,[],ds[i],ρ3,E2.mono s23,Dx,g1,fun τ3 E3=>⟨uni hid (D :: as),H,ρ3,[],c,E3,g2,fun H5 s5=>?_⟩⟩
      have sA:Same H2 H5:=s23.trans s5
      cases c with
      | false=>
        dsimp only
        rw [if_neg Bool.false_ne_true] at hr ⊢
        exact CIt.mk (ρ3) (ys) (done) (rest) (as) (E3.mono s5) (s2.trans sA) (sA _ _ hy) (hd.mono (del_mono sA _) (fun p _ o e=>sA _ _ e)) (hnew) (hr) (ho) (Nat.le_succ_of_le hdl)
      | true=>
        dsimp only
        rw [if_pos rfl] at hr ⊢
        obtain ⟨yv,g3,hr⟩:=bind_some hr
        obtain ⟨rest2,g4,rfl⟩:=map_some hr
        refine ⟨uni hid (D :: as),H,ρ3,[],yv,E3.mono s5,g3,fun y bs H6 s6 hbs Dy=>?_⟩
        have sB:Same H2 H6:=sA.trans s6
        have hyl:ys.length = done.length:=hd.length
        have bD:∀ p ∈ bs,p ≠ D:=fun p hp z=>by
          have e1:=hbs p hp
          rw [z,sA _ _ hy] at e1; cases e1
        have b1:∀ p ∈ bs,H1 p = none:=fun p hp=>by
          cases e:H1 p with
          | none=>rfl
          | some o=>have e1:=hbs p hp; rw [sA _ _ (s2 _ _ e)] at e1; cases e1
        have abs:∀ p ∈ as,p ∉ bs:=fun p hp z=>by
          refine L2.o_E (hd.lists p hp) fun vs e=>?_
          have e1:=hbs p z
          rw [sA _ _ e] at e1; cases e1
        have hmem:∀ b,b ∈ D :: (as ++ bs) ↔ b = D ∨ b ∈ as ∨ b ∈ bs:=fun b=>by simp
        have hlis:∀ b,uni hid (D :: (as ++ bs)) b → ∃ vs,upd H6 D (.lst (ys ++ [y])) b = some (.lst vs):=fun b z=>by
          by_cases hbd:b = D
          · rw [hbd,upd_same]; exact ⟨_,rfl⟩
          · rw [upd_ne hbd]
            rcases z with z | z
            · refine L2.o_E (E2.ishL b (.inl z)) fun vs e=>?_
              exact ⟨vs,sB _ _ e⟩
            · rcases (hmem b).mp z with z | z | z
              · exact absurd z hbd
              · refine L2.o_E (hd.lists b z) fun vs e=>?_
                exact ⟨vs,sB _ _ e⟩
              · exact Dy.lists b z
        have cB:Same (del H2 (uni hid (D :: as))) (del (upd H6 D (.lst (ys ++ [y]))) (uni hid (D :: (as ++ bs)))):=fun b o e=>by
          by_cases hh:uni hid (D :: as) b
          · rw [del_in hh] at e; cases e
          · rw [del_out hh] at e
            have hbd:b ≠ D:=fun z=>hh (.inr (by rw [z]; exact List.mem_cons_self))
            rw [del_out fun z=>?_,upd_ne hbd]
            · exact sB _ _ e
            · rcases z with z | z
              · exact hh (.inl z)
              · rcases (hmem b).mp z with z | z | z
                · exact hbd z
                · exact hh (.inr (List.mem_cons_of_mem _ z))
                · have e1:=hbs b z; rw [sA _ _ e] at e1; cases e1
        have cE:Same (del H6 (uni (uni hid (D :: as)) (bs ++ []))) (del (upd H6 D (.lst (ys ++ [y]))) (uni hid (D :: (as ++ bs)))):=fun b o e=>by
          by_cases hh:uni (uni hid (D :: as)) (bs ++ []) b
          · rw [del_in hh] at e; cases e
          · rw [del_out hh] at e
            have hbd:b ≠ D:=fun z=>hh (.inl (.inr (by rw [z]; exact List.mem_cons_self)))
            rw [del_out fun z=>?_,upd_ne hbd]
            · exact e
            · rcases z with z | z
              · exact hh (.inl (.inl z))
              · rcases (hmem b).mp z with z | z | z
                · exact hbd z
                · exact hh (.inl (.inr (List.mem_cons_of_mem _ z)))
                · exact hh (.inr (by rw [List.append_nil]; exact z))
        refine ⟨ys,sB _ _ hy,by (clear Dx step g1 hdr hi' hlen; omega),CIt.mk (ρ3) (ys ++ [y]) (done ++ [yv]) (rest2) (as ++ bs) ?_ (fun b o e=>?_) (upd_same) ?_ (fun p hp=>?_) (g4) ?_ ?_⟩
        · have E6:EnvOk K O0 (uni hid (D :: (as ++ bs))) H τ3 H6 ρ3 []:=EnvOk.hideN (hid:=uni hid (D :: as)) (bs:=bs) (E3.mono s5) s6 (fun b z=>by
            rcases z with z | z
            · exact .inl (.inl z)
            · rcases (hmem b).mp z with z | z | z
              · exact .inl (.inr (by rw [z]; exact List.mem_cons_self))
              · exact .inl (.inr (List.mem_cons_of_mem _ z))
              · exact .inr z) hbs fun b z=>by
            by_cases hbd:b = D
            · exact ⟨ys,by rw [hbd]; exact sB _ _ hy⟩
            · refine L2.o_E (hlis b z) fun vs e=>?_
              rw [upd_ne hbd] at e
              exact ⟨vs,e⟩
          exact E6.updHid (.inr List.mem_cons_self) hDH
        · rw [upd_ne (ne_of_none e hD)]
          exact sB b o (s2 b o e)
        · exact DenOs.snoc (Dy.mono cE fun p hp o e=>by rw [upd_ne (bD p hp)]; exact e) (hd.mono cB fun p hp o e=>by rw [upd_ne (hnew p hp).2]; exact sB _ _ e) abs
        · rcases List.mem_append.mp hp with hp | hp
          · exact hnew p hp
          · exact ⟨b1 p hp,bD p hp⟩
        · rw [ho,List.append_assoc]; rfl
        · rw [List.length_append,List.length_singleton]; (clear hyl Dx step g1 hdr hi' hzl hz hlen; omega)
    · have e:i = ds.length:=by (clear hdl hzl hz hlen; omega)
      subst e
      rw [List.drop_length,compD] at hr
      obtain rfl:=Option.some.inj hr
      rw [List.append_nil] at ho
      subst ho
      refine .inl ⟨G.stop H2 keep,q (.ref D) (D :: as) H2 (s1.trans s2) (fun p hp=>?_) ?_⟩
      · rcases List.mem_cons.mp hp with z | z
        · rw [z]; exact hDH
        · exact s1.free (hnew p z).1
      · rw [List.append_nil]
        exact .lst hy hd fun z=>(hnew D z).2 rfl
end
section
variable {K:PySem.W.Frag} {O:Ow} {hid:Addr → Prop} {H0 H H':Hp} {σ:St} {ρ:Rho} {ow:List Addr}
end
section
variable {X:Cx} {O:Ow} {i:Nat} {pos:Pos}
end
end L2
namespace L2
open PySem PySem.Spec PyProof.Rows
variable [Reg]
noncomputable def tX (K:PySem.W.Frag) (O:Ow) (f:Rho → Option (PyData × Rho)):TE:=fun σ H Q=>At5 K O f σ H fun hid H0 ρ ow r=>∀ v H',EnvOk K O hid H0 σ H' r.2 ow → Same (del H (uni hid ow)) (del H' (uni hid ow)) → Den K (del H' (uni hid ow)) v r.1 → Q v H'
noncomputable abbrev PX (X:Cx) (O:Ow) (e:Expr) (f:Rho → Option (PyData × Rho)):Prop:=PE X e (tX X.K O f)
noncomputable def popD (i:Nat) (ρ:Rho):Option (PyData × Rho):=((ρ[i]?).join.bind listD).bind fun ds=>ds.getLast?.map fun d=>(d,ρ.set i (some (.list ds.dropLast)))
noncomputable def opL (g:PyData → PyData → Option PyData) (fa:Rho → Option (PyData × Rho)) (fb:Rho → Option PyData) (ρ:Rho):Option (PyData × Rho):=(fa ρ).bind fun r=>(fb r.2).bind fun e=>(g r.1 e).map fun d=>(d,r.2)
noncomputable def opR (g:PyData → PyData → Option PyData) (fa:Rho → Option PyData) (fb:Rho → Option (PyData × Rho)) (ρ:Rho):Option (PyData × Rho):=(fa ρ).bind fun d=>(fb ρ).bind fun r=>(g d r.1).map fun e=>(e,r.2)
noncomputable def setEff (i:Nat) (x:Option (PyData × Rho)):Option Out:=x.map fun r=>.nx (r.2.set i (some r.1))
section
variable {X:Cx} {O:Ow} {a b e:Expr} {fa fb:Rho → Option PyData} {pos:Pos}
theorem DenL.dropLast {K:PySem.W.Frag} {H:Hp} {vs:List V} {ds:List PyData} (h:DenL K H vs ds):DenL K H vs.dropLast ds.dropLast:=by
  rw [List.dropLast_eq_take,List.dropLast_eq_take,h.length]
  exact h.take _
theorem x_pop {i:Nat} {x:Str} {p apos cpos:Pos} (hx:PE X (.Name x p) (tVar i)) (hO:autoParam (O.s.lookup i = some (.lst .cl)) L2.ar._auto_1)
    (hbase:autoParam (attributeBase (.Name x p) "pop" X.env (eval (.Name x p) X.env) = eval (.Name x p) X.env) L2.ar._auto_1) (hline:autoParam ((apos.endLine == cpos.line) = true) L2.ar._auto_1) :
    PX X O (.Call (.Attribute (.Name x p) "pop" apos) [] [] cpos) (popD i):=
  (pe_bm0 PySem.F.plainAttrs_list PySem.F.slot_list_pop PySem.F.type_list_pop mt_pop (at_name hx hO) hbase hline).imp fun σ H Q zpat=>by
    obtain ⟨hid,H0,ρ,ow,r,E,hf,k⟩:=zpat
    obtain ⟨ds,g1,g2⟩:=bind_some hf
    obtain ⟨d,g3,rfl⟩:=map_some g2
    obtain ⟨dl,g4,g5⟩:=bind_some g1
    rw [listD_some g5] at g4
    refine L2.i_EEEEEEEAAAAA (hid) (H0) (ρ) (ow) (.list ds) ([]) (ds) (E) (join_some g4) (rfl) (rfl) (rfl) (fun H1 l vs s1 hH hD hl hE=>?_)
    rw [List.getLast?_eq_getElem?] at g3
    refine L2.o_EA (hD.get g3) fun y h1 h2=>?_
    rw [← hD.length] at h1
    refine L2.i_AEEEAAAA (.inl ⟨rfl,vs,SqL.of hH⟩) (l) (vs) (y) (rfl) (rfl) (hH) (h1) (k y _ (hE H1 (Same.refl _) _ _ hD.dropLast) ?_ ?_)
    · rw [del_upd (uni_in hl)]; exact del_mono s1 _
    · rw [del_upd (uni_in hl)]; exact h2
theorem x_opL {op:Operator} {rd:R2} {g:PyData → PyData → Option PyData} {fa:Rho → Option (PyData × Rho)} (ho:OpR X (binaryOp op) rd) (hg:SpecOp X.K rd g) (ha:PX X O a fa) (hb:PR X O b fb):PX X O (.BinOp a op b pos) (opL g fa fb):=
  (pe_op ho ha hb).imp fun σ H Q zpat=>by
    obtain ⟨hid,H0,ρ,ow,r,E,hf,k⟩:=zpat
    obtain ⟨r1,h1,h2⟩:=bind_some hf
    obtain ⟨y1,h3,h4⟩:=bind_some h2
    obtain ⟨d,h5,rfl⟩:=map_some h4
    exact ⟨hid,H0,ρ,ow,r1,E,h1,fun x H1 E1 s1 D1=>⟨hid,H0,r1.2,ow,y1,E1,h3,fun y H2 s2 D2=>hg x y H2 _ _ _ Q ((D1.mono (del_mono s2 _)).mono (del_same _ _)) (D2.mono (del_same _ _)) h5 fun v S=>k v H2 (E1.mono s2) (s1.trans (del_mono s2 _)) S.den⟩⟩
theorem x_opR {op:Operator} {rd:R2} {g:PyData → PyData → Option PyData} {fb:Rho → Option (PyData × Rho)} (ho:OpR X (binaryOp op) rd) (hg:SpecOp X.K rd g) (ha:PV X O a fa) (hb:PX X O b fb):PX X O (.BinOp a op b pos) (opR g fa fb):=
  (pe_op ho ha hb).imp fun σ H Q zpat=>by
    obtain ⟨hid,H0,ρ,ow,r,E,hf,k⟩:=zpat
    obtain ⟨d,h1,h2⟩:=bind_some hf
    obtain ⟨r1,h3,h4⟩:=bind_some h2
    obtain ⟨d2,h5,rfl⟩:=map_some h4
    exact ⟨hid,H0,ρ,ow,d,E,h1,fun x H1 s1 D1=>⟨hid,H0,ρ,ow,r1,E.mono s1,h3,fun y H2 E2 s2 D2=>hg x y H2 _ _ _ Q ((D1.mono s2).mono (del_same _ _)) (D2.mono (del_same _ _)) h5 fun v S=>k v H2 E2 ((del_mono s1 _).trans s2) S.den⟩⟩
theorem x_ix {fb:Rho → Option (PyData × Rho)} (ha:PV X O a fa) (hb:PX X O b fb) (hs:PlainIx b:=by intro _ _; rfl):PX X O (.Subscript a b pos) (opR ixD fa fb):=
  (pe_ix (ix_list.or ix_tup) ha hb hs).imp fun σ H Q zpat=>by
    obtain ⟨hid,H0,ρ,ow,r,E,hf,k⟩:=zpat
    obtain ⟨d,h1,h2⟩:=bind_some hf
    obtain ⟨r1,h3,h4⟩:=bind_some h2
    obtain ⟨d2,h5,rfl⟩:=map_some h4
    exact ⟨hid,H0,ρ,ow,d,E,h1,fun x H1 s1 D1=>⟨hid,H0,ρ,ow,r1,E.mono s1,h3,fun y H2 E2 s2 D2=>sp_ix x y H2 (del H2 (uni hid ow)) _ _ _ Q (del_same _ _) (D1.mono s2) D2 h5 fun v S=>k v H2 E2 ((del_mono s1 _).trans s2) S⟩⟩
theorem s_setX {i:Nat} {x:Str} {pos':Pos} {f:Rho → Option (PyData × Rho)} (hN:X.N.Nodup) (hi:X.N[i]? = some x) (hx:Loc X.env.scope x) (he:PX X O e f) (hO:autoParam (O.s.lookup i = none) L2.ar._auto_1) (hs:autoParam (swapsWith e (some (.Name x pos')) pos.line X.env = pure false) L2.ar._auto_1) (hf:X.fn x = true ∨ X.env.scope.names.lookup x = some .local:=by first | exact .inl rfl | exact .inr rfl | assumption) :
    PSv X O (.Assign [.Name x pos'] e pos) (fun ρ=>setEff i (f ρ)):=(ps_set hN hi hx he hs hf).imp fun D σ H zpat=>by
  obtain ⟨hid,H0,ρ,ow,o,E,hf,k⟩:=zpat
  obtain ⟨d,g1,rfl⟩:=map_some hf
  exact ⟨hid,H0,ρ,ow,d,E,g1,fun v H' E' s Dv=>k _ H' ow s (E'.set hO Dv)⟩
theorem x_modL {fa:Rho → Option (PyData × Rho)} (ha:PX X O a fa) (hb:PR X O b fb):PX X O (.BinOp a .Mod b pos) (opL modD fa fb):=x_opL op_modN (spI (fun _ _=>.int _) fun i j h=>of_decide_eq_true h) ha hb
theorem mul_cond {i j:Int} (h:((isBig i && isBig j) || (isS i || isS j)) = true):CMulB i j:=by
  rw [Bool.or_eq_true,Bool.or_eq_true,Bool.and_eq_true] at h
  rcases h with h | h | h
  · exact .inl ⟨of_decide_eq_true h.1,of_decide_eq_true h.2⟩
  · have:=of_decide_eq_true h
    exact .inr (.inl (by omega))
  · have:=of_decide_eq_true h
    exact .inr (.inr (by omega))
theorem x_mulL {fa:Rho → Option (PyData × Rho)} (ha:PX X O a fa) (hb:PR X O b fb):PX X O (.BinOp a .Mult b pos) (opL mulD fa fb):=x_opL op_mulB (spI (fun _ _=>.int _) fun i j h=>mul_cond h) ha hb
theorem x_addR {fb:Rho → Option (PyData × Rho)} (ha:PV X O a fa) (hb:PX X O b fb):PX X O (.BinOp a .Add b pos) (opR addD fa fb):=x_opR op_add (spI0 fun _ _=>.int _) ha hb
end
end L2
namespace L2
open PySem PySem.Spec PyProof.Rows
variable [Reg]
section
variable {X:Cx} {O:Ow} {a b e:Expr} {fa fb:Rho → Option PyData} {pos:Pos} {l:Addr}
theorem at_nameI {i:Nat} (h:PE X e (tVar i)) (hi:autoParam (O.s.lookup i = some (.io l)) L2.ar._auto_1):PAt X O i (.io l) e (fun _=>some []):=h.imp fun σ H Q zpat=>by
  refine L2.o_EEEEEEEAAAAA (zpat) fun hid H0 ρ ow d path ds E hρ hp ht hg k=>?_
  obtain rfl:=Option.some.inj hp
  refine L2.o_EEEAAAAA (E.at hi hρ ht hg) fun v m vs h1 h2 h3 h4 h5 h6=>?_
  cases h2
  exact ⟨.ref m,h1,k H m vs (Same.refl H) h3 h4 h5 h6⟩
theorem x_popI {i:Nat} {x:Str} {p apos cpos:Pos} (hx:PE X (.Name x p) (tVar i)) (hO:autoParam (O.s.lookup i = some (.io l)) L2.ar._auto_1)
    (hbase:autoParam (attributeBase (.Name x p) "pop" X.env (eval (.Name x p) X.env) = eval (.Name x p) X.env) L2.ar._auto_1) (hline:autoParam ((apos.endLine == cpos.line) = true) L2.ar._auto_1) :
    PX X O (.Call (.Attribute (.Name x p) "pop" apos) [] [] cpos) (popD i):=
  (pe_bm0 PySem.F.plainAttrs_list PySem.F.slot_list_pop PySem.F.type_list_pop mt_pop (at_nameI hx hO) hbase hline).imp fun σ H Q zpat=>by
    obtain ⟨hid,H0,ρ,ow,r,E,hf,k⟩:=zpat
    obtain ⟨ds,g1,g2⟩:=bind_some hf
    obtain ⟨d,g3,rfl⟩:=map_some g2
    obtain ⟨dl,g4,g5⟩:=bind_some g1
    rw [listD_some g5] at g4
    refine L2.i_EEEEEEEAAAAA (hid) (H0) (ρ) (ow) (.list ds) ([]) (ds) (E) (join_some g4) (rfl) (rfl) (rfl) (fun H1 l vs s1 hH hD hl hE=>?_)
    rw [List.getLast?_eq_getElem?] at g3
    refine L2.o_EA (hD.get g3) fun y h1 h2=>?_
    rw [← hD.length] at h1
    refine L2.i_AEEEAAAA (.inl ⟨rfl,vs,SqL.of hH⟩) (l) (vs) (y) (rfl) (rfl) (hH) (h1) (k y _ (hE H1 (Same.refl _) _ _ hD.dropLast) ?_ ?_)
    · rw [del_upd (uni_in hl)]; exact del_mono s1 _
    · rw [del_upd (uni_in hl)]; exact h2
end
theorem del_eq {H:Hp} {l:Addr}:del H (fun b=>b = l) l = none:=del_in (P:=fun b=>b = l) rfl
theorem del_neq {H:Hp} {l b:Addr} (h:b ≠ l):del H (fun b=>b = l) b = H b:=del_out (P:=fun b=>b = l) h
inductive SpIO (K:PySem.W.Frag) (j:Nat) (T:Ty) (F:List PyData → Option (PyData × List PyData)) (vs:List V) (H:Hp) (Q:VK):Prop
  | mk (hid:Addr → Prop) (l:Addr) (ws:List V) (es0 ds:List PyData) (r:PyData × List PyData) (h1:∀ b,hid b → ∃ vs,H b = some (.lst vs)) (h2:¬ hid l) (h3:vs[j]? = some (.ref l)) (h4:H l = some (.lst ws)) (h5:DenL K (del H (uni hid [l])) ws es0)
      (h6:ds.length = vs.length) (h7:ds[j]? = some (.list es0)) (h8:∀ (i:Nat) (v:V) (d:PyData),i ≠ j → vs[i]? = some v → ds[i]? = some d → Den K (del H (uni hid [l])) v d) (h9:F ds = some r)
      (k:∀ v as H' ws',Same (del H fun b=>b = l) H' → H' l = some (.lst ws') → DenL K (del H' (uni hid (l :: as))) ws' r.2 → (∀ p ∈ as,H p = none) → DenO K H' (del H' (uni hid (l :: as))) T v r.1 as → Q v H'):SpIO K j T F vs H Q
noncomputable def spIO (K:PySem.W.Frag) (j:Nat) (T:Ty) (F:List PyData → Option (PyData × List PyData)):Sp:=fun vs H Q _=>SpIO K j T F vs H Q
inductive ThenI (K:PySem.W.Frag) (O:Ow) (l:Addr) (hid:Addr → Prop) (H0:Hp) (D:Ends) (o:Out):Prop
  | mk (d:PyData) (es:List PyData) (e:o = .rt (.tuple [d,.list es]))
      (k:∀ v as H' ws',Same H0 H' → H' l = some (.lst ws') → DenL K (del H' (uni hid (l :: as))) ws' es → (∀ p ∈ as,H0 p = none ∧ p ≠ l) → DenO K H' (del H' (uni hid (l :: as))) O.r v d as → D.rt v H'):ThenI K O l hid H0 D o
noncomputable def tI (K:PySem.W.Frag) (O:Ow) (l:Addr) (F:Rho → Option Out):TS:=fun D σ H=>At5 K O F σ H fun hid H0 ρ ow o=>ThenI K O l hid H0 D o
noncomputable abbrev PSI (X:Cx) (O:Ow) (l:Addr) (sts:List Stmt) (F:Rho → Option Out):Prop:=PSs X sts (tI X.K O l F)
noncomputable def seqI (F G:Rho → Option Out) (ρ:Rho):Option Out:=(F ρ).bind fun o=>match o with
  | .nx ρ'=>G ρ'
  | _=>none
noncomputable def retI (j:Nat) (f:Rho → Option PyData) (ρ:Rho):Option Out:=(f ρ).bind fun d=>((ρ[j]?).join.bind listD).map fun es=>.rt (.tuple [d,.list es])
section
variable {X:Cx} {O:Ow} {st:Stmt} {rest:List Stmt} {F G:Rho → Option Out} {e:Expr} {f:Rho → Option PyData} {pos:Pos} {l:Addr} {j:Nat}
theorem ss_consI (h1:PSv X O st F) (h2:PSI X O l rest G):PSI X O l (st :: rest) (seqI F G):=(pss_cons h1 h2).imp fun D σ H zpat=>by
  obtain ⟨hid,H0,ρ,ow,o,E,hf,d,es,rfl,k⟩:=zpat
  obtain ⟨o1,g1,g2⟩:=bind_some hf
  refine ⟨hid,H0,ρ,ow,o1,E,g1,?_⟩
  cases o1 with
  | nx ρ1=>exact fun σ' H' ow' s' E'=>⟨hid,H0,ρ1,ow',_,E',g2,d,es,rfl,k⟩
  | rt d=>exact L2.no_ns g2
  | bk ρ1=>exact L2.no_ns g2
  | ct ρ1=>exact L2.no_ns g2
theorem ss_retI {U:List Nat} (h:PRt X O U O.r e f) (hj:autoParam (O.s.lookup j = some (.io l)) L2.ar._auto_1) (hU:autoParam (j ∉ U) L2.ad._auto_1):PSI X O l [.Return (some e) pos] (retI j f):=(pss_one (ps_ret h)).imp fun D σ H zpat=>by
  obtain ⟨hid,H0,ρ,ow,o,E,hf,d,es,e1,k⟩:=zpat
  obtain ⟨d',g1,g2⟩:=bind_some hf
  obtain ⟨es',g3,g4⟩:=map_some g2
  rw [← g4] at e1
  injection e1 with e1
  injection e1 with e1
  injection e1 with e1 e2
  injection e2 with e2 _
  injection e2 with e2
  subst e1 e2
  obtain ⟨dl,g5,g6⟩:=bind_some g3
  rw [listD_some g6] at g5
  refine L2.o_E (E.own) fun A EA=>?_
  refine L2.o_EA (EA.1 j _ _ hj (join_some g5)) fun v0 hv D0=>?_
  generalize hA:A j = Aj at D0
  cases D0 with
  | @io _ ws _ hl q=>
    have hlA:l ∈ A j:=by rw [hA]; exact List.mem_singleton.mpr rfl
    have hlo:=EA.2.2 j l hlA
    refine L2.i_EEEEEEAAA (hid) (H0) (ρ) (ow) (d') (A) (E) (EA) (g1) (fun v as H' s n Dv=>k v as H' ws (E.baseS.trans s) (s _ _ hl) (q.mono fun b o z=>?_) (fun p hp=>⟨?_,?_⟩) (Dv.mono (del_sub fun b z=>?_) fun p _ o e=>e))
    · by_cases hb:uni hid ow b
      · rw [del_in hb] at z; cases z
      · rw [del_out hb] at z
        rw [del_out fun y=>?_]
        · exact s b o z
        · rcases y with y | y
          · exact hb (.inl y)
          · rcases List.mem_cons.mp y with rfl | y
            · exact hb (.inr hlo)
            · rcases n b y with w | ⟨i,_,w⟩
              · rw [w] at z; cases z
              · exact hb (.inr (EA.2.2 i b w))
    · rcases n p hp with w | ⟨i,_,w⟩
      · exact E.baseS.free w
      · exact E.ow0 (EA.2.2 i p w)
    · rintro rfl
      rcases n p hp with w | ⟨i,hi,w⟩
      · rw [hl] at w; cases w
      · exact EA.2.1 i j p (fun z=>hU (z ▸ hi)) w hlA
    · rcases z with z | z
      · exact .inl z
      · rcases List.mem_cons.mp z with rfl | z
        · exact .inr (List.mem_append_right _ hlo)
        · exact .inr (List.mem_append_left _ z)
end
theorem isL_some {d:PyData} {ds:List PyData} (h:isL d = some ds):d = .list ds:=by
  cases d with
  | list es=>rw [Option.some.inj h]
  | _=>exact L2.no_ns h
theorem isTu_some {d:PyData} {ds:List PyData} (h:isTu d = some ds):d = .tuple ds:=by
  cases d with
  | tuple es=>rw [Option.some.inj h]
  | _=>exact L2.no_ns h
noncomputable def outR:Out → Option PyData
  | .rt d=>some d
  | _=>none
noncomputable def outI (o:Option Out):Option (PyData × List PyData):=(o.bind outR).bind fun d=>(isTu d).bind fun ds=>(two ds).bind fun p=>(isL p.2).map fun es=>(p.1,es)
noncomputable def runI (n m:Nat) (B:Rho → Option Out) (ds:List PyData):Option (PyData × List PyData):=if ds.length = n then outI (B (ds.map some ++ List.replicate m none)) else none
theorem runI_some {n m:Nat} {B:Rho → Option Out} {ds:List PyData} {r:PyData × List PyData} (h:runI n m B ds = some r):ds.length = n ∧ B (ds.map some ++ List.replicate m none) = some (.rt (.tuple [r.1,.list r.2])):=by
  unfold runI at h
  split at h
  · refine ⟨by assumption,?_⟩
    obtain ⟨d,h0,h⟩:=bind_some h
    obtain ⟨o,h1,h2⟩:=bind_some h0
    obtain ⟨es,h3,h⟩:=bind_some h
    obtain ⟨p,h4,h⟩:=bind_some h
    obtain ⟨ls,h5,rfl⟩:=map_some h
    rw [h1]
    cases o with
    | rt e=>
      obtain rfl:=Option.some.inj h2
      rw [isTu_some h3,two_some h4,isL_some h5]
    | _=>exact L2.no_ns h2
  · exact L2.no_ns h
theorem fn_autoI {P:Program} {w:World} {K:PySem.W.Frag} {mg:Str → Option Value} {base:Heap} {x qual:Str} {st:Stmt} {f:Addr} {fd:FuncData} {N ps:List Str} {k j:Nat} {T:Ty} (O:Addr → Ow) (F:Fun K x qual st f fd) (S:FnScope N ps (defScope st))
    (hj:∀ l,(O l).s.lookup j = some (.io l)) (hr':∀ l,(O l).r = T) (idx:List Nat) (hix:∀ l,(O l).s.map (·.1) = idx) (hO:∀ i ∈ idx,i = j ∨ ps.length ≤ i) (B:Rho → Option Out)
    (hbody:∀ (l:Addr) (cdv:Value),CdOk K f cdv → ∀ (A:Around) (outer:List Env) (s:Shared) (H:Hp) (E:XK),Room k (A.deeper (envOfC qual (defScope st) s.heap.objs.size f cdv)) →
      PSI (cxOf CX0 P w K mg base N qual (defScope st) f cdv A outer s H E).nox (O l) l (defBody st) B) :
    FnOk P w K mg base CX0 (k + 1) f fd ps (spIO K j T (runI ps.length (N.length - ps.length) B)):=by
  refine fn_okC F S (fun vs H Q E h=>?_) (fun cdv hk A outer s H vs Q E hr h=>?_)
  · obtain ⟨hid,l,ws,es0,ds,r,h1,h2,h3,h4,h5,h6,h7,h8,h9,q⟩:=h
    rw [← h6]
    exact (runI_some h9).1
  · obtain ⟨hid,l,ws,es0,ds,r,h1,h2,h3,h4,h5,h6,h7,h8,h9,q⟩:=h
    refine L2.o_A (runI_some h9) fun hl hB=>?_
    refine ⟨_,hbody l cdv hk A outer s H E hr,?_⟩
    have E0:EnvOk K (O l) hid (del H fun b=>b = l) (start N vs) H (ds.map some ++ List.replicate (N.length - ps.length) none) [l]:=by
      have get:∀ (i:Nat) (d:PyData),(ds.map some ++ List.replicate (N.length - ps.length) none)[i]? = some (some d) → ds[i]? = some d ∧ ∃ v,vs[i]? = some v ∧ (start N vs)[i]? = some (some v):=fun i d e=>by
        by_cases hi:i < ds.length
        · rw [List.getElem?_append_left (by simpa using hi),List.getElem?_map] at e
          refine L2.o_EA (Option.map_eq_some_iff.mp e) fun d' e1 e2=>?_
          obtain rfl:=Option.some.inj e2
          have hv:i < vs.length:=by (clear e e1 hl h8 h7 h3 hO; omega)
          refine ⟨e1,vs[i],List.getElem?_eq_getElem hv,?_⟩
          unfold start
          rw [List.getElem?_append_left (by simpa using hv),List.getElem?_map,List.getElem?_eq_getElem hv]
          rfl
        · rw [List.getElem?_append_right (by simpa using Nat.le_of_not_lt hi),List.getElem?_replicate] at e
          split at e <;> cases e
      refine ⟨by unfold start; simp [h6,hl]; (clear get h8 h7 h3 hO; omega),fun b o e=>?_,fun i d hi e=>?_,⟨fun i=>if i = j then [l] else [],fun i t d hi e=>?_,fun i m p him hp hm=>?_,fun i p hp=>?_⟩,fun m hm=>?_,h1,fun z=>?_⟩
      · by_cases hb:b = l
        · rw [hb,del_eq] at e; cases e
        · rw [del_neq hb] at e
          rw [del_out fun z=>hb (List.mem_singleton.mp z)]
          exact e
      · refine L2.o_AEA (get i d e) fun e1 v e2 e3=>?_
        refine ⟨v,e3,h8 i v d (fun z=>?_) e2 e1⟩
        rw [z,hj l] at hi; cases hi
      · refine L2.o_AEA (get i d e) fun e1 v e2 e3=>?_
        rcases hO i (hix l ▸ lookTy_mem hi) with rfl | z
        · rw [hj l] at hi
          obtain rfl:=Option.some.inj hi
          rw [h3] at e2
          obtain rfl:=Option.some.inj e2
          rw [h7] at e1
          obtain rfl:=Option.some.inj e1
          dsimp only
          rw [if_pos rfl]
          exact ⟨_,e3,.io h4 h5⟩
        · have:=(List.getElem?_eq_some_iff.mp e1).1
          (clear e3 e2 e1 e get h8 h7 h6 h3 hO; omega)
      · dsimp only at hp hm
        split at hp
        · split at hm
          · subst_vars; exact him rfl
          · cases hm
        · cases hp
      · dsimp only at hp
        split at hp
        · exact hp
        · cases hp
      · rw [List.mem_singleton.mp hm]
        exact ⟨⟨ws,h4⟩,h2⟩
      · have:=hj l
        rw [z] at this
        exact L2.no_ns this
    refine ⟨hid,_,_,[l],_,E0,hB,r.1,r.2,rfl,fun v as H' ws' s' hl' hD n Dv=>q v as H' ws' s' hl' hD (fun p hp=>?_) (by rw [← hr' l]; exact Dv)⟩
    have:=(n p hp).1
    rw [del_neq (n p hp).2] at this
    exact this
end L2
namespace L2
open PySem PySem.Spec PyProof.Rows
variable [Reg]
noncomputable def DefI (P:Program) (w:World) (K:PySem.W.Frag) (mg:Str → Option Value) (base:Heap) (k:Nat) (x:Str) (ps:List Str) (j:Nat) (T:Ty) (F:List PyData → Option (PyData × List PyData)):Prop:=
  ∃ f fd,FnOk P w K mg base CX0 k f fd ps (spIO K j T F) ∧ mg x = some (.ref f) ∧ PySem.W.keepIn K (.ref f) = true ∧ Binds K fd ps [] ∧ PySem.W.nsIn K mainGlobals x = some (some (.ref f))
section
variable {X:Cx} {O:Ow} {a:Expr} {es:List Expr} {pos p:Pos} {fa fs:Rho → Option (List PyData)} {k:Nat} {ps:List Str} {x:Str} {T:Ty} {F:List PyData → Option (PyData × List PyData)}
end
end L2
namespace L2
open PySem PySem.Spec PyProof.Rows
variable [Reg]
section
variable {X:Cx} {O:Ow} {a b e:Expr} {fa fb f:Rho → Option PyData} {pos p:Pos}
noncomputable def repD (a:Option (List PyData)) (b:Option PyData):Option (List PyData):=a.bind fun ds=>b.bind fun k=>match k with
  | .int i=>if (decide (i.natAbs < 1000) && decide (ds.length * i.toNat ≤ 1000)) = true then some (List.replicate i.toNat ds).flatten else none
  | _=>none
theorem DenL.rep {K:PySem.W.Frag} {H:Hp} {vs:List V} {ds:List PyData} (h:DenL K H vs ds):∀ k:Nat,DenL K H (List.replicate k vs).flatten (List.replicate k ds).flatten
  | 0=>.nil
  | k + 1=>by
    rw [List.replicate_succ,List.flatten_cons,List.replicate_succ,List.flatten_cons]
    exact h.append (DenL.rep h k)
theorem fr_rep {fa:Rho → Option (List PyData)} (ha:PFr X O a fa) (hb:PR X O b fb):PFr X O (.BinOp a .Mult b pos) (fun ρ=>repD (fa ρ) (fb ρ)):=
  (pe_op op_rep ha hb).imp fun σ H Q zpat=>by
    obtain ⟨hid,H0,ρ,ow,out,E,hf,k⟩:=zpat
    obtain ⟨ds,h1,hf⟩:=bind_some hf
    obtain ⟨kd,h2,hf⟩:=bind_some hf
    split at hf
    case h_2=>cases hf
    rename_i i
    split at hf
    case isFalse=>cases hf
    rename_i hc
    simp only [Bool.and_eq_true,decide_eq_true_eq] at hc
    obtain rfl:=Option.some.inj hf
    refine ⟨hid,H0,ρ,ow,ds,E,h1,fun l vs H1 s1 n1 q1 D1=>⟨hid,H0,ρ,ow,_,E.mono s1,h2,fun y H2 s2 D2=>?_⟩⟩
    have hz:1000 < sizeLine:=by decide
    refine L2.i_EEEAAAAAA (l) (i) (vs) (rfl) (den_int D2) (s2 _ _ q1) (by (clear hz; omega)) (by (clear hz; omega)) (by rw [D1.length]; omega) (fun p hp=>k p _ _ ((s1.trans s2).trans (same_new hp)) ((s1.trans s2).free hp) upd_same ?_)
    refine ((D1.mono (del_mono s2 _)).rep _).mono (del_new (same_new hp) hp fun b z=>?_)
    rcases z with z | z
    · exact .inl (.inl z)
    · exact .inr (by simpa using z)
noncomputable def tupleD:PyData → Option PyData
  | .list ds=>some (.tuple ds)
  | .tuple ds=>some (.tuple ds)
  | _=>none
theorem r_tuple (hg:Gl X "tuple") (hm:X.mg "tuple" = none) (ha:PR X O a fa) (he:autoParam (starEach [a] X.env = (false,eval a X.env) :: starEach [] X.env) L2.ar._auto_1) (hpl:autoParam ((backTo pos (starEach [] X.env)).any (·.1) = false) L2.ar._auto_1) :
    PR X O (.Call (.Name "tuple" p) [a] [] pos) (fun ρ=>(fa ρ).bind tupleD):=
  (pe_callTy call_tuple_of hg hm bt_tuple (pa_cons ha pa_nil he) (by decide) (by decide) he hpl).imp fun σ H Q zpat=>by
    obtain ⟨hid,H0,ρ,ow,r,E,hf,k⟩:=zpat
    obtain ⟨d,h1,h2⟩:=bind_some hf
    refine ⟨hid,H0,ρ,ow,d,E,h1,fun x H1 s1 D1=>?_⟩
    unfold tupleD at h2
    split at h2
    · obtain rfl:=Option.some.inj h2
      obtain ⟨q,vs,rfl,q1,r1⟩:=den_lst D1
      exact L2.i_EEA (q) (vs) (rfl) (.inl ⟨(del_same _ _).seq q1,fun l hl=>k _ _ (s1.trans (same_new hl)) (.tup (SqT.of ((E.mono s1).newAtR hl)) (r1.mono (del_mono (same_new hl) _)))⟩)
    · obtain rfl:=Option.some.inj h2
      obtain ⟨q,vs,rfl,q1,r1⟩:=den_tup D1
      exact L2.i_EEA (q) (vs) (rfl) (.inr ⟨(del_same _ _).tup q1,k _ _ s1 (.tup q1 r1)⟩)
    · exact L2.no_ns h2
noncomputable def putP (i:Nat) (T:Ty) (ρ:Rho) (path:Option (List Int)) (x k:Option PyData):Option Out:=x.bind fun d=>path.bind fun q=>((ρ[i]?).join).bind fun t=>if tyP T t q = true then (getP t q).bind fun ds=>(k.bind intO).bind fun kk=>(ixN ds.length kk).map fun j=>.nx (ρ.set i (some (setP t q (ds.set j d)))) else none
theorem s_putP {i:Nat} {T:Ty} {xo kx:Expr} {tpos:Pos} {fp:Rho → Option (List Int)} {fk:Rho → Option PyData} (hx:PAt X O i T xo fp) (hk:PR X O kx fk) (he:PV X O e f)
    (ha:∀ v,assign (.Subscript xo kx tpos) X.env v = (do
      let ov ← holding [v] (eval xo X.env)
      let iv ← holding [v,ov] (eval kx X.env)
      standAt tpos
      holding [v,ov,iv] (setItem ov iv v)
      release [v,ov,iv] []):=by intro _; rfl)
    (hs:autoParam (swapsWithSole [.Subscript xo kx tpos] e pos.line X.env = pure false) L2.ar._auto_1) (hw:autoParam (swappedStores [.Subscript xo kx tpos] e X.env = pure none) L2.ar._auto_1) (h1:autoParam ((assignEach [.Subscript xo kx tpos] X.env).map (·.2) = [assign (.Subscript xo kx tpos) X.env]) L2.ar._auto_1) :
    PSv X O (.Assign [.Subscript xo kx tpos] e pos) (fun ρ=>putP i T ρ (fp ρ) (f ρ) (fk ρ)):=
  (ps_asg he (pg_sub hx hk set_list ha) hs hw h1).imp fun D σ H zpat=>by
    obtain ⟨hid,H0,ρ,ow,o,E,hf,k⟩:=zpat
    obtain ⟨d,g1,hf⟩:=bind_some hf
    obtain ⟨path,g3,hf⟩:=bind_some hf
    obtain ⟨t,g5,hf⟩:=bind_some hf
    split at hf
    case isFalse=>cases hf
    rename_i hty
    obtain ⟨ds,g7,hf⟩:=bind_some hf
    obtain ⟨kk,g8,hf⟩:=bind_some hf
    obtain ⟨j,g9,rfl⟩:=map_some hf
    obtain ⟨kd,g10,g11⟩:=bind_some g8
    rw [intO_some g11] at g10
    refine ⟨hid,H0,ρ,ow,d,E,g1,fun v H1 s1 Dv=>?_⟩
    have E1:=E.mono s1
    refine L2.i_EEEEEEEAAAAA (hid) (H0) (ρ) (ow) (t) (path) (ds) (E1) (join_some g5) (g3) (hty) (g7) (fun H2 l vs s2 hH hD hl hE=>?_)
    refine ⟨hid,H0,ρ,ow,_,E1.mono s2,g10,fun kv H3 s3 Dk=>?_⟩
    refine L2.i_EEEEAAAA (l) (vs) (kk) (j) (rfl) (den_int Dk) (s3 _ _ hH) (by rw [hD.length]; exact g9) (k _ _ ow ?_ (hE H3 s3 _ _ ((hD.mono (del_mono s3 _)).set (Dv.mono (del_mono (s2.trans s3) _)) j)))
    rw [del_upd (uni_in hl)]
    exact (del_mono s1 _).trans (del_mono (s2.trans s3) _)
end
section
variable {K:PySem.W.Frag} {O:Ow} {hid:Addr → Prop} {H0 H H':Hp} {σ:St} {ρ:Rho} {ow:List Addr}
end
section
variable {X:Cx} {O:Ow} {e:Expr} {f:Rho → Option PyData} {pos:Pos} {T:Ty}
end
end L2
namespace L2
open PySem PySem.Spec PyProof.Rows
variable [Reg]
noncomputable def lookD (f:Str):List PyData → List PyData → Option PyData
  | .str n :: ns,d :: ds=>if n = f then some d else lookD f ns ds
  | _,_=>none
noncomputable def fldD (cls f:Str):PyData → Option PyData
  | .dict [(.bool false,.str c),(.none,.tuple ns),(.none,.tuple fd)]=>if c = cls then lookD f ns fd else none
  | _=>none
theorem lookD_some {K:PySem.W.Frag} {H:Hp} {f:Str} {r:PyData}:∀ {fs:List (Str × V)} {fd:List PyData},DenL K H (fs.map (·.2)) fd → lookD f ((fs.map (·.1)).map .str) fd = some r → ∃ w,fs.lookup f = some w ∧ Den K H w r
  | [],fd,_,h=>by cases h
  | (n,v) :: fs,fd,D,h=>by
    cases D with
    | cons D1 D2=>
      rename_i d ds
      have h':(if n = f then some d else lookD f ((fs.map (·.1)).map .str) ds) = some r:=h
      by_cases e:n = f
      · rw [if_pos e] at h'
        cases h'
        exact ⟨v,by rw [List.lookup_cons,e,beq_self_eq_true],D1⟩
      · rw [if_neg e] at h'
        refine L2.o_EA (lookD_some D2 h') fun w h1 h2=>?_
        refine ⟨w,?_,h2⟩
        rw [List.lookup_cons,show (f == n) = false from beq_eq_false_iff_ne.mpr (Ne.symm e)]
        exact h1
theorem den_fld {K:PySem.W.Frag} {H:Hp} {v:V} {d r:PyData} {cls f:Str} (h:Den K H v d) (q:fldD cls f d = some r):∃ a C dx fs w,v = .ref a ∧ H a = some (.ins C dx fs) ∧ PySem.W.nsIn K mainGlobals cls = some (some (.ref C)) ∧ fs.lookup f = some w ∧ Den K H w r:=by
  cases h with
  | @obj a c fs fd h D=>
    have q':(if c = cls then lookD f ((fs.map (·.1)).map .str) fd else none) = some r:=q
    by_cases e:c = cls
    · rw [if_pos e] at q'
      subst e
      refine L2.o_EEA (h) fun C dx h1 h2=>?_
      refine L2.o_EA (lookD_some D q') fun w h3 h4=>?_
      exact L2.i_EEEEEAAAA (a) (C) (dx) (fs) (w) (rfl) (h1) (h2) (h3) (h4)
    · rw [if_neg e] at q'; cases q'
  | _=>cases q
noncomputable def FldOk (K:PySem.W.Frag) (cls f:Str):Prop:=∀ C,PySem.W.nsIn K mainGlobals cls = some (some (.ref C)) → Cls K C ∧ NoAttr K C f
section
variable {X:Cx} {O:Ow} {a e:Expr} {fa f:Rho → Option PyData} {pos p:Pos} {cls fld:Str}
theorem r_fld (hC:FldOk X.K cls fld) (ha:PR X O a fa) (hb:autoParam (attributeBase a fld X.env (eval a X.env) = eval a X.env) L2.ar._auto_1):PR X O (.Attribute a fld pos) (fun ρ=>(fa ρ).bind (fldD cls fld)):=
  (pe_fld ha hb).imp fun σ H Q zpat=>by
    obtain ⟨hid,H0,ρ,ow,r,E,hf,k⟩:=zpat
    obtain ⟨d,h1,h2⟩:=bind_some hf
    refine ⟨hid,H0,ρ,ow,d,E,h1,fun x H1 s1 D1=>?_⟩
    refine L2.o_EEEEEAAAA (den_fld D1 h2) fun a' C dx fs w zq5 g1 g2 g3 g4=>?_
    subst zq5
    exact L2.i_EEEEEAAAAA (a') (C) (dx) (fs) (w) (rfl) (del_same _ _ _ _ g1) ((hC C g2).1) ((hC C g2).2) (g3) (k w H1 s1 g4)
end
theorem SqT.cut {K:PySem.W.Frag} {G G':Hp} (e:∀ a o,G a = some o → (∀ C dx fs,o ≠ .ins C dx fs) → G' a = some o) {a:Addr} {vs:List V} (q:SqT K G a vs):SqT K G' a vs:=by
  rcases q with (q | ⟨o,q⟩) | q
  · exact .inl (.inl (e _ _ q fun _ _ _ z=>by cases z))
  · exact .inl (.inr ⟨o,e _ _ q fun _ _ _ z=>by cases z⟩)
  · exact .inr q
theorem Den.cut {K:PySem.W.Frag} {G G':Hp} (e:∀ a o,G a = some o → (∀ C dx fs,o ≠ .ins C dx fs) → G' a = some o) {v:V} {d:PyData} (z:Den K G v d):lf d = true → Den K G' v d:=
  Den.rec (motive_1:=fun v d _=>lf d = true → Den K G' v d) (motive_2:=fun vs ds _=>lf.go ds = true → DenL K G' vs ds) (fun _=>.non) (fun b _=>.bl b) (fun i _=>.int i) (fun x _=>.str x) (fun q _ r h=>.tup (q.cut e) (r h)) (fun _ _ _ h=>by cases h) (fun _ _ _ h=>by cases h) (fun _ _ _ h=>by cases h) (fun _ _ _ h=>by cases h) (fun _=>.nil) (fun _ _ a b h=>by rw [lf.go,Bool.and_eq_true] at h; exact .cons (a h.1) (b h.2)) z
noncomputable def tK (K:PySem.W.Frag) (x:Addr) (F:Rho → Option Rho):TS:=fun D σ H=>∃ hid H0 ρ ρ',EnvOk K O0 hid H0 σ H ρ [] ∧ σ[0]? = some (some (.ref x)) ∧ F ρ = some ρ' ∧ ∀ σ' H',Same H H' → EnvOk K O0 hid H0 σ' H' ρ' [] → σ'[0]? = some (some (.ref x)) → D.nx σ' H'
inductive KB (K:PySem.W.Frag) (x:Addr) (f1 f2:Str) (B:Rho → Option (PyData × PyData)) (D:Ends) (σ:St) (H:Hp):Prop
  | mk (hid:Addr → Prop) (H0:Hp) (ρ:Rho) (r:PyData × PyData) (C dx:Addr) (E:EnvOk K O0 hid H0 σ H ρ []) (hx:σ[0]? = some (some (.ref x))) (hH:H x = some (.ins C dx [])) (hc:Cls K C) (n1:NoAttr K C f1) (n2:NoAttr K C f2) (hB:B ρ = some r) (l1:lf r.1 = true) (l2:lf r.2 = true)
      (k:∀ σ' H' v1 v2,Same (del H fun b=>b = x) H' → H' x = some (.ins C dx [(f1,v1),(f2,v2)]) → Den K (del H' fun b=>hid b ∨ b = x) v1 r.1 → Den K (del H' fun b=>hid b ∨ b = x) v2 r.2 → D.nx σ' H'):KB K x f1 f2 B D σ H
noncomputable def tKB (K:PySem.W.Frag) (x:Addr) (f1 f2:Str) (B:Rho → Option (PyData × PyData)):TS:=fun D σ H=>KB K x f1 f2 B D σ H
section
variable {X:Cx} {e:Expr} {st:Stmt} {rest:List Stmt} {f:Rho → Option PyData} {pos:Pos} {x:Addr} {f1 f2:Str} {B:Rho → Option (PyData × PyData)}
theorem k_set {i:Nat} {y:Str} {pos':Pos} (hN:X.N.Nodup) (hi:X.N[i]? = some y) (hy:Loc X.env.scope y) (he:PV X O0 e f) (h0:autoParam (i ≠ 0) L2.ad._auto_1) (hs:autoParam (swapsWith e (some (.Name y pos')) pos.line X.env = pure false) L2.ar._auto_1) (hf:X.fn y = true ∨ X.env.scope.names.lookup y = some .local:=by first | exact .inl rfl | exact .inr rfl | assumption) :
    PS X (.Assign [.Name y pos'] e pos) (tK X.K x (fun ρ=>(f ρ).map fun d=>ρ.set i (some d))):=(ps_set hN hi hy he hs hf).imp fun D σ H zpat=>by
  refine L2.o_EEEEAAA (zpat) fun hid H0 ρ ρ' E hx hF k=>?_
  obtain ⟨d,g1,rfl⟩:=map_some hF
  exact ⟨hid,H0,ρ,[],d,E,g1,fun v H' s Dv=>k _ H' s ((E.mono s).set rfl Dv) (by rw [List.getElem?_set_ne h0]; exact hx)⟩
theorem k_expr (he:PR X O0 e f) (hs:autoParam (swapsWith e none pos.line X.env = pure false) L2.ar._auto_1):PS X (.Expr e pos) (tK X.K x (fun ρ=>(f ρ).map fun _=>ρ)):=(ps_expr he hs).imp fun D σ H zpat=>by
  refine L2.o_EEEEAAA (zpat) fun hid H0 ρ ρ' E hx hF k=>?_
  obtain ⟨d,g1,rfl⟩:=map_some hF
  exact ⟨hid,H0,ρ,[],d,E,g1,fun v H' s _=>k σ H' s (E.mono s) hx⟩
theorem kb_cons {F:Rho → Option Rho} (h1:PS X st (tK X.K x F)) (h2:PSs X rest (tKB X.K x f1 f2 B)):PSs X (st :: rest) (tKB X.K x f1 f2 (fun ρ=>(F ρ).bind B)):=(pss_cons h1 h2).imp fun D σ H zpat=>by
  obtain ⟨hid,H0,ρ,r,C,dx,E,hx,hH,hc,n1,n2,hB,l1,l2,k⟩:=zpat
  obtain ⟨ρ',g1,g2⟩:=bind_some hB
  refine L2.i_EEEEAAA (hid) (H0) (ρ) (ρ') (E) (hx) (g1) (fun σ' H' s E' hx'=>⟨hid,H0,ρ',r,C,dx,E',hx',s _ _ hH,hc,n1,n2,g2,l1,l2,fun σ2 H2 v1 v2 s2=>k σ2 H2 v1 v2 (fun b o q=>s2 b o ?_)⟩)
  by_cases hb:b = x
  · rw [hb,del_in (P:=fun b=>b = x) rfl] at q; cases q
  · rw [del_out (P:=fun b=>b = x) hb] at q ⊢
    exact s b o q
noncomputable def twoF (f:Rho → Option PyData) (i:Nat) (ρ:Rho):Option (PyData × PyData):=(f ρ).bind fun d=>((ρ[i]?).join).map fun e=>(d,e)
theorem kb_flds {i:Nat} {o1 o2 y:Expr} {p1 p2 q1 q2:Pos} (h12:f1 ≠ f2) (ho1:PE X o1 (tVar 0)) (ho2:PE X o2 (tVar 0)) (he:PV X O0 e f) (hy:PE X y (tVar i)) (hs1:autoParam (swapsWith e (some (.Attribute o1 f1 p1)) q1.line X.env = pure false) L2.ar._auto_1) (hs2:autoParam (swapsWith y (some (.Attribute o2 f2 p2)) q2.line X.env = pure false) L2.ar._auto_1) :
    PSs X [.Assign [.Attribute o1 f1 p1] e q1,.Assign [.Attribute o2 f2 p2] y q2] (tKB X.K x f1 f2 (twoF f i)):=(pss_cons (ps_fld ho1 he hs1) (pss_one (ps_fld ho2 hy hs2))).imp fun D σ H zpat=>by
  obtain ⟨hid,H0,ρ,r,C,dx,E,hx,hH,hc,n1,n2,hB,l1,l2,k⟩:=zpat
  obtain ⟨d1,g1,hB⟩:=bind_some hB
  obtain ⟨d2,g2,rfl⟩:=map_some hB
  refine L2.o_EA (E.raw (join_some g2)) fun v2 h3 D2=>?_
  refine ⟨hid,H0,ρ,[],d1,E,g1,fun v1 H1 s1 D1=>⟨.ref x,hx,x,C,dx,[],rfl,s1 _ _ hH,hc,n1,by decide,v2,h3,.ref x,hx,x,C,dx,_,rfl,upd_same,hc,n2,by show 1 < 1000; decide,?_⟩⟩
  rw [uni_nil] at D1
  have hput:putF f2 v2 (putF f1 v1 []) = [(f1,v1),(f2,v2)]:=by
    show (if f1 = f2 then _ else _) = _
    rw [if_neg h12]
    rfl
  rw [hput]
  have keep:∀ b o,H1 b = some o → b ≠ x → upd (upd H1 x (.ins C dx (putF f1 v1 []))) x (.ins C dx [(f1,v1),(f2,v2)]) b = some o:=fun b o q hb=>by rw [upd_ne hb,upd_ne hb]; exact q
  have cut:∀ a o,del H1 hid a = some o → (∀ C dx fs,o ≠ .ins C dx fs) → del (upd (upd H1 x (.ins C dx (putF f1 v1 []))) x (.ins C dx [(f1,v1),(f2,v2)])) (fun b=>hid b ∨ b = x) a = some o:=fun a o q n=>by
    have q':=del_same _ _ _ _ q
    have nh:¬ hid a:=fun z=>by rw [del_in z] at q; cases q
    have nx:a ≠ x:=fun z=>by
      rw [z,s1 _ _ hH] at q'
      exact n _ _ _ (Option.some.inj q').symm
    rw [del_out (P:=fun b=>hid b ∨ b = x) fun z=>z.elim nh nx]
    exact keep a o q' nx
  refine k σ _ v1 v2 (fun b o q=>?_) upd_same (D1.cut cut l1) ((D2.mono (del_mono s1 _)).cut cut l2)
  by_cases hb:b = x
  · rw [hb,del_in (P:=fun b=>b = x) rfl] at q; cases q
  · rw [del_out (P:=fun b=>b = x) hb] at q
    exact keep b o (s1 b o q) hb
end
inductive SpNew (K:PySem.W.Frag) (cls f1 f2:Str) (F:List PyData → Option (PyData × PyData)) (vs:List V) (H:Hp) (Q:VK):Prop
  | mk (hid:Addr → Prop) (x dx C:Addr) (us:List V) (ds:List PyData) (r:PyData × PyData) (e:vs = .ref x :: us) (hH:H x = some (.ins C dx [])) (hn:PySem.W.nsIn K mainGlobals cls = some (some (.ref C))) (h1:∀ b,hid b → ∃ vs,H b = some (.lst vs)) (D:DenL K (del H hid) us ds) (hF:F ds = some r)
      (k:∀ H' v1 v2,Same (del H fun b=>b = x) H' → H' x = some (.ins C dx [(f1,v1),(f2,v2)]) → Den K (del H' fun b=>hid b ∨ b = x) v1 r.1 → Den K (del H' fun b=>hid b ∨ b = x) v2 r.2 → Q .non H'):SpNew K cls f1 f2 F vs H Q
noncomputable def spNew (K:PySem.W.Frag) (cls f1 f2:Str) (F:List PyData → Option (PyData × PyData)):Sp:=fun vs H Q _=>SpNew K cls f1 f2 F vs H Q
noncomputable def runN (n m:Nat) (B:Rho → Option (PyData × PyData)) (ds:List PyData):Option (PyData × PyData):=if ds.length + 1 = n then (B (none :: (ds.map some ++ List.replicate m none))).bind fun r=>if (lf r.1 && lf r.2) = true then some r else none else none
theorem fn_autoN {P:Program} {w:World} {K:PySem.W.Frag} {mg:Str → Option Value} {base:Heap} {x qual:Str} {st:Stmt} {f:Addr} {fd:FuncData} {N ps:List Str} {k:Nat} {cls f1 f2:Str} (h1:FldOk K cls f1) (h2:FldOk K cls f2) (F:Fun K x qual st f fd) (S:FnScope N ps (defScope st)) (B:Rho → Option (PyData × PyData))
    (hbody:∀ (z:Addr) (cdv:Value),CdOk K f cdv → ∀ (A:Around) (outer:List Env) (s:Shared) (H:Hp) (E:XK),Room k (A.deeper (envOfC qual (defScope st) s.heap.objs.size f cdv)) →
      PSs (cxOf CX0 P w K mg base N qual (defScope st) f cdv A outer s H E).nox (defBody st) (tKB K z f1 f2 B)) :
    FnOk P w K mg base CX0 (k + 1) f fd ps (spNew K cls f1 f2 (runN ps.length (N.length - ps.length) B)):=by
  refine fn_okC F S (fun vs H Q E h=>?_) (fun cdv hk A outer s H vs Q E hr h=>?_)
  · obtain ⟨hid,z,dx,C,us,ds,r,rfl,hH,hn,hl,D,hF,q⟩:=h
    unfold runN at hF
    split at hF
    · rename_i e
      rw [List.length_cons,D.length]
      exact e
    · cases hF
  · obtain ⟨hid,z,dx,C,us,ds,r,rfl,hH,hn,hl,D,hF,q⟩:=h
    unfold runN at hF
    split at hF
    case isFalse=>cases hF
    rename_i hlen
    obtain ⟨r',hB,hF⟩:=bind_some hF
    split at hF
    case isFalse=>cases hF
    rename_i hlf
    cases hF
    rw [Bool.and_eq_true] at hlf
    have hdl:=D.length
    refine ⟨_,hbody z cdv hk A outer s H E hr,?_⟩
    have E0:EnvOk K O0 hid H (start N (.ref z :: us)) H (none :: (ds.map some ++ List.replicate (N.length - ps.length) none)) []:=by
      refine ⟨by unfold start; simp [hdl]; (clear hdl; omega),fun b o e=>by rw [del_out (by simp)]; exact e,fun i d _ e=>?_,⟨fun _=>[],fun i t d hi _=>(by cases hi),fun i j p _ z=>(by cases z),fun i p z=>(by cases z)⟩,fun l z=>(by cases z),hl,fun _=>rfl⟩
      cases i with
      | zero=>cases e
      | succ i=>
        rw [List.getElem?_cons_succ] at e
        by_cases hi:i < ds.length
        · rw [List.getElem?_append_left (by simpa using hi),List.getElem?_map] at e
          refine L2.o_EA (Option.map_eq_some_iff.mp e) fun d' e1 e2=>?_
          cases e2
          refine L2.o_EA (D.get e1) fun v e3 e4=>?_
          refine ⟨v,?_,by rw [uni_nil]; exact e4⟩
          unfold start
          rw [List.map_cons,List.cons_append,List.getElem?_cons_succ,List.getElem?_append_left (by simpa [hdl] using hi),List.getElem?_map,e3]
          rfl
        · rw [List.getElem?_append_right (by simpa using Nat.le_of_not_lt hi),List.getElem?_replicate] at e
          split at e <;> cases e
    exact ⟨hid,H,_,r,C,dx,E0,rfl,hH,(h1 C hn).1,(h1 C hn).2,(h2 C hn).2,hB,hlf.1,hlf.2,fun σ' H' v1 v2 s' hx' D1 D2=>q H' v1 v2 s' hx' D1 D2⟩
noncomputable def DefN (P:Program) (w:World) (K:PySem.W.Frag) (mg:Str → Option Value) (base:Heap) (k:Nat) (cls:Str) (ps:List Str) (f1 f2:Str) (F:List PyData → Option (PyData × PyData)):Prop:=
  ∃ C f fd,Mk K C f ∧ FnOk P w K mg base CX0 k f fd ps (spNew K cls f1 f2 F) ∧ mg cls = some (.ref C) ∧ PySem.W.nsIn K mainGlobals cls = some (some (.ref C)) ∧ Binds K fd ps []
noncomputable def newD (cls f1 f2:Str) (F:List PyData → Option (PyData × PyData)) (a:Option (List PyData)):Option PyData:=(a.bind F).map fun r=>objD cls [f1,f2] [r.1,r.2]
section
variable {X:Cx} {O:Ow} {a:Expr} {es:List Expr} {pos p:Pos} {fs:Rho → Option (List PyData)} {k:Nat} {ps:List Str} {cls f1 f2:Str} {F:List PyData → Option (PyData × PyData)}
theorem v_make (G:DefN X.prog X.w X.K X.mg X.base k cls ps f1 f2 F) (hlf:∀ ds r,F ds = some r → lf r.1 = true ∧ lf r.2 = true) (hr:Room (k + 1) X.A) (hg:Gl X cls) (ha:PAr X O (a :: es) fs) (hdb:autoParam ((cls == ("__debug__":Str)) = false) L2.ad._auto_1) (he:autoParam (starEach (a :: es) X.env = (false,eval a X.env) :: starEach es X.env) L2.ar._auto_1) (hpl:autoParam ((backTo pos (starEach es X.env)).any (·.1) = false) L2.ar._auto_1) :
    PV X O (.Call (.Name cls p) (a :: es) [] pos) (fun ρ=>newD cls f1 f2 F (fs ρ)):=by
  refine L2.o_EEEAAAA (G) fun C f fd M g1 g2 g3 g4=>?_
  exact (pe_make M g1 hr hg g2 g4 .nil pass0 ha hdb he hpl).imp fun σ H Q zpat=>by
    obtain ⟨hid,H0,ρ,ow,d,E,hf,k⟩:=zpat
    obtain ⟨r,hf2,rfl⟩:=map_some hf
    obtain ⟨ds,h1,h2⟩:=bind_some hf2
    refine L2.o_A (hlf ds r h2) fun l1 l2=>?_
    refine ⟨hid,H0,ρ,ow,ds,E,h1,fun vs H1 s1 D1 x dx nx ndx hne=>?_⟩
    rw [List.append_nil]
    have sN:Same H1 (upd (upd H1 dx (.own x)) x (.ins C dx [])):=fun b o q=>by
      rw [upd_ne (ne_of_none q nx),upd_ne (ne_of_none q ndx)]
      exact q
    have E1:=E.mono s1
    refine ⟨hid,x,dx,C,vs,ds,r,rfl,upd_same,g3,fun b hb=>?_,D1.mono (del_mono sN _),h2,fun H' v1 v2 s' hx' D1' D2'=>⟨rfl,k (.ref x) H' ?_ ?_⟩⟩
    · refine L2.o_E (E1.ishL b hb) fun ws q=>?_
      exact ⟨ws,sN _ _ q⟩
    · have s2:Same H1 H':=fun b o q=>s' b o (by rw [del_out (P:=fun b=>b = x) (ne_of_none q nx)]; exact sN b o q)
      exact s1.trans s2
    · have s2:Same H1 H':=fun b o q=>s' b o (by rw [del_out (P:=fun b=>b = x) (ne_of_none q nx)]; exact sN b o q)
      have E2:=E1.mono s2
      have sub:Same (del H' fun b=>hid b ∨ b = x) (del H' hid):=del_sub fun b z=>.inl z
      exact .obj (fs:=[(f1,v1),(f2,v2)]) ⟨C,dx,by rw [del_out (E1.fresh nx)]; exact hx',g3⟩ (.cons ((D1'.mono sub).clean E2.lists l1) (.cons ((D2'.mono sub).clean E2.lists l2) .nil))
theorem runN_lf {n m:Nat} {B:Rho → Option (PyData × PyData)} (ds:List PyData) (r:PyData × PyData) (h:runN n m B ds = some r):lf r.1 = true ∧ lf r.2 = true:=by
  unfold runN at h
  split at h
  · obtain ⟨r',h1,h⟩:=bind_some h
    split at h
    · rename_i hc
      cases h
      rw [Bool.and_eq_true] at hc
      exact hc
    · cases h
  · cases h
end
end L2
namespace L2
open PySem PySem.Spec PyProof.Rows
variable [Reg]
noncomputable def veil (ks:List Nat) (ρ:Rho):Rho:=ks.foldl (fun r i=>r.set i none) ρ
noncomputable def veilF (ks:List Nat) (f:Rho → Option PyData) (ρ:Rho):Option PyData:=f (veil ks ρ)
theorem veil_len:∀ (ks:List Nat) (ρ:Rho),(veil ks ρ).length = ρ.length
  | [],_=>rfl
  | k :: ks,ρ=>by
    show (veil ks (ρ.set k none)).length = _
    rw [veil_len ks,List.length_set]
theorem veil_get:∀ (ks:List Nat) (ρ:Rho) (i:Nat) (d:PyData),(veil ks ρ)[i]? = some (some d) → i ∉ ks ∧ ρ[i]? = some (some d)
  | [],ρ,i,d,h=>⟨by simp,h⟩
  | k :: ks,ρ,i,d,h=>by
    refine L2.o_A (veil_get ks (ρ.set k none) i d h) fun h1 h2=>?_
    by_cases e:i = k
    · subst e
      have hl:=(List.getElem?_eq_some_iff.mp h2).1
      rw [List.length_set] at hl
      rw [List.getElem?_set_self hl] at h2
      cases h2
    · rw [List.getElem?_set_ne (Ne.symm e)] at h2
      exact ⟨fun z=>(List.mem_cons.mp z).elim e h1,h2⟩
theorem look_none:∀ {l:List (Nat × Ty)} {i:Nat},i ∉ l.map (·.1) → l.lookup i = none
  | [],_,_=>rfl
  | (j,t) :: r,i,h=>by
    rw [List.lookup_cons,show (i == j) = false from beq_eq_false_iff_ne.mpr fun z=>h (by rw [z]; exact List.mem_cons_self)]
    exact look_none fun z=>h (List.mem_cons_of_mem _ z)
theorem EnvOk.veil {K:PySem.W.Frag} {O:Ow} {hid:Addr → Prop} {H0 H:Hp} {σ:St} {ρ:Rho} {ow:List Addr} (E:EnvOk K O hid H0 σ H ρ ow):EnvOk K O0 (uni hid ow) H σ H (L2.veil (O.s.map (·.1)) ρ) []:=by
  refine ⟨by rw [veil_len]; exact E.len,fun b o e=>by rw [del_out (by simp)]; exact e,fun i d _ e=>?_,⟨fun _=>[],fun i t d hi _=>(by cases hi),fun i j p _ z=>(by cases z),fun i p z=>(by cases z)⟩,fun l z=>(by cases z),E.uniL,fun _=>rfl⟩
  refine L2.o_A (veil_get _ _ _ _ e) fun h1 h2=>?_
  refine L2.o_EA (E.val i d (look_none h1) h2) fun v h3 h4=>?_
  exact ⟨v,h3,by rw [uni_nil]; exact h4⟩
theorem uni_uni {hid:Addr → Prop} {ow as:List Addr}:uni (uni hid ow) (as ++ []) = uni hid (as ++ ow):=by
  funext b
  apply propext
  rw [List.append_nil]
  constructor
  · rintro ((z | z) | z)
    · exact .inl z
    · exact .inr (List.mem_append_right _ z)
    · exact .inr (List.mem_append_left _ z)
  · rintro (z | z)
    · exact .inl (.inl z)
    · rcases List.mem_append.mp z with z | z
      · exact .inr z
      · exact .inl (.inr z)
section
variable {X:Cx} {O:Ow} {e:Expr} {f:Rho → Option PyData} {T:Ty}
theorem veil_imp {K:PySem.W.Frag}:∀ σ H Q,tFt K O T (fun ρ=>f (veil (O.s.map (·.1)) ρ)) σ H Q → tFt K O0 T f σ H Q:=fun σ H Q zpat=>by
  obtain ⟨hid,H0,ρ,ow,d,E,hf,k⟩:=zpat
  exact ⟨uni hid ow,H,_,[],d,E.veil,hf,fun v as H' s n D=>k v as H' s n (by rw [uni_uni] at D; exact D)⟩
end
section
variable {X:Cx} {O:Ow} {i:Nat} {x:Str} {pos' spos:Pos} {elt tg iter:Expr} {ifs:List Expr} {scope:Scope} {pos:Pos} {fi:Rho → Option (List PyData)} {S:PyData → Rho → Option Rho} {ft:Rho → Option Bool} {fe:Rho → Option PyData} {k:Nat} {N:List Str} {ix:List Nat} {T:Ty}
theorem s_setCF (hN:X.N.Nodup) (hi':X.N[i]? = some x) (hx':Loc X.env.scope x) (sc:Scope) (hsc:X.env.scope = sc) (C:CompSc sc X.N scope k N ix)
    (hx:X.xe = fun _ _=>False) (hc:X.calm = true) (hi:PIr X O0 tg iter fi)
    (hg:∀ cl C s3 H3 fp pins,PGv (cxComp X N scope cl C s3 H3 fp pins) O0 tg S) (ht:∀ cl C s3 H3 fp pins,PIfv (cxComp X N scope cl C s3 H3 fp pins) ifs ft) (he:∀ cl C s3 H3 fp pins,PFt (cxComp X N scope cl C s3 H3 fp pins) O0 T elt fe) (hO:autoParam (O.s.lookup i = some (.lst T)) L2.ar._auto_1)
    (hsw:autoParam (swapsWith (.ListComp elt [⟨tg,iter,ifs,0⟩] scope pos) (some (.Name x pos')) spos.line X.env = pure true) L2.ar._auto_1) (hf:X.fn x = true ∨ X.env.scope.names.lookup x = some .local:=by first | exact .inl rfl | exact .inr rfl | assumption)
    (hs:∀ x,foldedSetIterable iter X.env x = pure x:=by intro _; rfl):PSv X O (.Assign [.Name x pos'] (.ListComp elt [⟨tg,iter,ifs,0⟩] scope pos) spos) (fun ρ=>setO i ρ (veilF (O.s.map (·.1)) (fun ρ=>(compO S ft fe (fi ρ) (frees k ix ρ)).map .list) ρ)):=
  s_asgT ((ps_setC (g:=tG X.K O0 S) (tc:=tT X.K O0 ft) (te:=tFt X.K O0 T fe) hN hi' hx' sc hsc C hx hc hi hg ht he hsw hf hs).imp fun D σ H h=>comp_impT rfl σ H _ (veil_imp σ H _ h)) (.inl hO)
end
noncomputable def clsBody (s:Stmt):List Stmt:=match s with
  | .ClassDef _ _ _ b _ _ _ _ _ _ _=>b
  | _=>[]
inductive ClsAt (K:PySem.W.Frag) (cls:Str) (st:Stmt) (f1 f2:Str):Prop
  | mk (C f:Addr) (fd:FuncData) (a:PySem.W.nsIn K mainGlobals cls = some (some (.ref C))) (m1:PySem.W.makesIn K C = true) (m2:PySem.W.findIn K (.ref C) "__init__" = some (some (.ref f))) (m3:PySem.W.isFn K (.ref f) = true) (m4:PySem.W.keepIn K (.ref C) = true)
      (c1:PySem.W.plainGet K C Str.empty = true) (c2:PySem.W.hasDictIn K C = true) (c3:PySem.W.plainOver K C = true) (c4:PySem.W.findIn K (.ref C) "__setattr__" = some (some (.builtin "object.__setattr__"))) (n1:PySem.W.findIn K (.ref C) f1 = some none) (n2:PySem.W.findIn K (.ref C) f2 = some none)
      (F:Fun K "__init__" (cls ++ ".__init__") st f fd):ClsAt K cls st f1 f2
section
variable {P:Program} {w:World} {K:PySem.W.Frag} {h:Heap} {mg:Str → Option Value} {base:Heap} {cls f1 f2:Str} {st:Stmt} {k:Nat} {ps:List Str}
theorem ClsAt.fld1 (d:ClsAt K cls st f1 f2):FldOk K cls f1:=fun C hC=>by
  cases d with
  | mk C' f fd a m1 m2 m3 m4 c1 c2 c3 c4 n1 n2 F=>
    rw [a] at hC
    cases hC
    exact ⟨⟨c1,c2,c3,c4⟩,n1⟩
theorem ClsAt.fld2 (d:ClsAt K cls st f1 f2):FldOk K cls f2:=fun C hC=>by
  cases d with
  | mk C' f fd a m1 m2 m3 m4 c1 c2 c3 c4 n1 n2 F=>
    rw [a] at hC
    cases hC
    exact ⟨⟨c1,c2,c3,c4⟩,n2⟩
theorem ClsAt.ok {F:List PyData → Option (PyData × PyData)} (d:ClsAt K cls st f1 f2) (X:K.In h) (G:h.Ns mainGlobals mg)
    (hb:∀ (kV doc pm:Value) (an:Option Addr) (cdv ct:Value) (us:List Value),us.length = ps.length → bindArgs (PySem.W.fnOf "__init__" (cls ++ ".__init__") (defArgs st) (defBody st) (defScope st) .none kV doc pm an cdv ct) ⟨us,[]⟩ = pure (ps.zip us))
    (ok:∀ f fd,Fun K "__init__" (cls ++ ".__init__") st f fd → FnOk P w K mg base CX0 k f fd ps (spNew K cls f1 f2 F)):DefN P w K mg base k cls ps f1 f2 F:=by
  cases d with
  | mk C f fd a m1 m2 m3 m4 c1 c2 c3 c4 n1 n2 D=>exact ⟨C,f,fd,⟨m1,m2,m3,m4⟩,ok f fd D,PySem.W.mg_of X G a,a,D.binds hb⟩
end
end L2
namespace L2
open PySem PySem.Spec PyProof.Rows
variable [Reg]
inductive FnAt (K:PySem.W.Frag) (x:Str) (st:Stmt):Prop
  | mk (f:Addr) (fd:FuncData) (a:PySem.W.nsIn K mainGlobals x = some (some (.ref f))) (F:Fun K x x st f fd):FnAt K x st
section
variable {P:Program} {w:World} {K:PySem.W.Frag} {h:Heap} {mg:Str → Option Value} {base:Heap} {x:Str} {st:Stmt} {k:Nat} {ps:List Str} {T:Ty}
theorem FnAt.ok {F:List PyData → Option PyData} (d:FnAt K x st) (X:K.In h) (G:h.Ns mainGlobals mg)
    (hb:∀ (kV doc pm:Value) (an:Option Addr) (cdv ct:Value) (us:List Value),us.length = ps.length → bindArgs (PySem.W.fnOf x x (defArgs st) (defBody st) (defScope st) .none kV doc pm an cdv ct) ⟨us,[]⟩ = pure (ps.zip us))
    (ok:∀ f fd,PySem.W.nsIn K mainGlobals x = some (some (.ref f)) → Fun K x x st f fd → FnOk P w K mg base CX0 k f fd ps (spR K T F)):DefOk P w K mg base k x ps T F:=by
  cases d with
  | mk f fd a D=>exact ⟨f,fd,ok f fd a D,PySem.W.mg_of X G a,D.kp,D.binds hb,a⟩
theorem FnAt.law {F:List PyData → Option PyData} {fa:Addr} {v0:Str} (d:FnAt K x st) (X:K.In h) (G:h.Ns mainGlobals mg) (hfa:mg x = some (.ref fa))
    (hb:∀ (kV doc pm:Value) (an:Option Addr) (cdv ct:Value) (s:Shared) (v:Value),BindsTo s (PySem.W.fnOf x x (defArgs st) (defBody st) (defScope st) .none kV doc pm an cdv ct) ⟨[v],[]⟩ [(v0,v)])
    (ok:∀ base f fd,Fun K x x st f fd → FnOk P w K mg base CX0 k f fd ps (spR K T F)) :
    ∃ fd:FuncData,(∀ (s:Shared) (v:Value),BindsTo s fd ⟨[v],[]⟩ [(v0,v)]) ∧ ∀ base:Heap,K.In base → base.Ns mainGlobals mg → FnOk P w K mg base CX0 k fa fd ps (spR K T F):=by
  cases d with
  | mk f fd a D=>
    cases hfa.symm.trans (PySem.W.mg_of X G a)
    refine ⟨fd,?_,fun base _ _=>ok base _ fd D⟩
    refine L2.o_EEEEEEEEEAA (D.ex) fun oc od kV doc pm an cdv ct osl e _ _=>?_
    subst e
    exact hb kV doc pm an cdv ct
end
noncomputable def noName (K:PySem.W.Frag) (x:Str):Bool:=match PySem.W.nsIn K mainGlobals x with
  | some none=>true
  | _=>false
noncomputable def noNames (K:PySem.W.Frag) (xs:List Str):Bool:=xs.all (noName K)
theorem noNames_get {K:PySem.W.Frag} {h:Heap} {mg:Str → Option Value} {xs:List Str} {x:Str} (X:K.In h) (G:h.Ns mainGlobals mg) (q:noNames K xs = true) (i:Nat) (hi:xs[i]? = some x):mg x = none:=by
  have h1:=List.all_eq_true.mp q x (List.mem_of_getElem? hi)
  refine PySem.W.mg_none_of X G ?_
  unfold noName at h1
  generalize PySem.W.nsIn K mainGlobals x = o at h1 ⊢
  cases o with
  | none=>exact L2.no_ft h1
  | some v=>cases v with
    | none=>rfl
    | some v=>exact L2.no_ft h1
end L2
namespace L2
open PySem PySem.Spec PyProof.Rows
theorem consD_ss (d:PyData) (r:List PyData):consD (some d) (some r) = some (d :: r):=rfl
theorem testD_s (b:Bool):testD (some (.bool b)) = some b:=rfl
theorem setO_s (i:Nat) (ρ:Rho) (d:PyData):setO i ρ (some d) = some (.nx (ρ.set i (some d))):=rfl
theorem compO_s {S:PyData → Rho → Option Rho} {ft:Rho → Option Bool} {fe:Rho → Option PyData} {ds:List PyData} {ρ:Rho} (h:ds.length ≤ 1000):compO S ft fe (some ds) ρ = compD S ft fe ds ρ:=by
  unfold compO
  rw [Option.bind_some,if_pos (decide_eq_true h)]
noncomputable def thenO (o:Option Out) (G:Rho → Option Out):Option Out:=o.bind fun o=>match o with
  | .nx ρ'=>G ρ'
  | .rt d=>some (.rt d)
  | .bk ρ'=>some (.bk ρ')
  | .ct ρ'=>some (.ct ρ')
theorem seqF_def (F G:Rho → Option Out) (ρ:Rho):seqF F G ρ = thenO (F ρ) G:=rfl
theorem thenO_nx (ρ:Rho) (G:Rho → Option Out):thenO (some (.nx ρ)) G = G ρ:=rfl
theorem bind2_ss (x y:PyData) (g:PyData → PyData → Option PyData):bind2 (some x) (some y) g = g x y:=rfl
theorem fdivD_ok {a b:Int} (h0:0 < b) (hb:isBig b = true):fdivD (.int a) (.int b) = some (.int (a / b)):=by
  have:b ≠ 0:=by omega
  simp [fdivD,int2C,intO,hb,this,Int.fdiv_eq_ediv_of_nonneg a (by (clear this; omega):0 ≤ b)]
theorem modD_ok {a b:Int} (h0:0 < b):modD (.int a) (.int b) = some (.int (a % b)):=by
  have:b ≠ 0:=by omega
  simp [modD,int2C,intO,this,Int.fmod_eq_emod_of_nonneg a (by (clear this; omega):0 ≤ b)]
theorem ltD_ok (a b:Int):ltD (.int a) (.int b) = some (.bool (decide (a < b))):=rfl
theorem leD_ok (a b:Int):leD (.int a) (.int b) = some (.bool (decide (a ≤ b))):=rfl
theorem gtD_ok (a b:Int):gtD (.int a) (.int b) = some (.bool (decide (b < a))):=rfl
theorem geD_ok (a b:Int):geD (.int a) (.int b) = some (.bool (decide (b ≤ a))):=rfl
theorem shaped_int (a:Int):SeqAt.shaped (.int a) = true:=by simp [SeqAt.shaped,PyData.canLay0,PyData.depth]
theorem eqD_int (a b:Int):eqD (.int a) (.int b) = some (.bool (a == b)):=by simp [eqD,shaped_int,PyData.eqv]
theorem neD_int (a b:Int):neD (.int a) (.int b) = some (.bool (!(a == b))):=by simp [neD,shaped_int,PyData.eqv]
theorem filt {α:Type} {p:α → Bool} {x:α} (h:p x = true):(some x).filter p = some x:=by rw [Option.filter_some,if_pos h]
theorem rng1_ok {n:Int} (h0:0 ≤ n) (h1:n < 1000):rng1D [.int n] = some (rngL 0 n.toNat):=by
  exact (show (if decide (n.natAbs < 2 ^ 61) = true then some (rngL 0 n.toNat) else none) = _ from if_pos (decide_eq_true (by omega)))
theorem rngL_get {n i:Nat} {d:PyData} (h:(rngL 0 n)[i]? = some d):i < n ∧ d = .int (i:Nat):=by
  unfold rngL at h
  rw [List.getElem?_map] at h
  cases e:(List.range n)[i]? with
  | none=>rw [e] at h; cases h
  | some j=>
    rw [e] at h
    obtain ⟨h1,h2⟩:=List.getElem?_eq_some_iff.mp e
    have h3:i = j:=by simpa using h2
    subst h3
    have h4:PyData.int (0 + (i:Nat)) = d:=Option.some.inj h
    exact ⟨by simpa using h1,by rw [← h4,Int.zero_add]⟩
theorem forD_inv {S:PyData → Rho → Option Rho} {F:Rho → Option Out} (I:Nat → Rho → Prop):∀ (ds:List PyData) (k:Nat) (ρ:Rho),I k ρ →
    (∀ (i:Nat) (d:PyData) (ρ:Rho),ds[i]? = some d → I (k + i) ρ → ∃ ρ1 ρ2,S d ρ = some ρ1 ∧ F ρ1 = some (.nx ρ2) ∧ I (k + i + 1) ρ2) → ∃ ρ',forD S F ds ρ = some (.nx ρ') ∧ I (k + ds.length) ρ'
  | [],k,ρ,h,_=>⟨ρ,rfl,h⟩
  | d :: r,k,ρ,h,step=>by
    obtain ⟨ρ1,ρ2,h1,h2,h3⟩:=step 0 d ρ rfl h
    obtain ⟨ρ',h4,h5⟩:=forD_inv I r (k + 1) ρ2 h3 fun i d' ρ' hd hi=>by
      have:=step (i + 1) d' ρ' (by simpa using hd) (by rw [show k + (i + 1) = k + 1 + i by (clear hd step; omega)]; exact hi)
      rwa [show k + (i + 1) + 1 = k + 1 + i + 1 by (clear hd step; omega)] at this
    refine ⟨ρ',?_,?_⟩
    · rw [forD,h1,Option.bind_some,h2,Option.bind_some]
      exact h4
    · rw [List.length_cons,show k + (r.length + 1) = k + 1 + r.length by (clear step; omega)]
      exact h5
theorem compD_map {α β:Type} {S:PyData → Rho → Option Rho} {fe:Rho → Option PyData} (ea:α → PyData) (eb:β → PyData) (g:α → β) (R:Rho → Prop) (ok:α → Prop)
    (hS:∀ x ρ,ok x → R ρ → ∃ ρ1,S (ea x) ρ = some ρ1 ∧ R ρ1 ∧ fe ρ1 = some (eb (g x))):∀ (xs:List α) (ρ:Rho),R ρ → (∀ x ∈ xs,ok x) → compD S (fun _=>some true) fe (xs.map ea) ρ = some ((xs.map g).map eb)
  | [],ρ,_,_=>rfl
  | x :: r,ρ,h,ho=>by
    obtain ⟨ρ1,h1,h2,h3⟩:=hS x ρ (ho x List.mem_cons_self) h
    rw [List.map_cons,compD,h1]
    simp only [Option.bind_some,if_true,h3]
    rw [compD_map ea eb g R ok hS r ρ1 h2 fun y hy=>ho y (List.mem_cons_of_mem _ hy)]
    rfl
structure Fr1 (p:Int × Int):Prop where
  pos:0 < p.2
  co:Int.gcd p.1 p.2 = 1
end L2
namespace L2
open PySem PySem.Spec PyProof.Rows
noncomputable def thenX (o:Option OutX) (G:Rho → Option OutX):Option OutX:=o.bind fun o=>match o with
  | .nx ρ'=>G ρ'
  | o=>some o
theorem setX_exc (i:Nat) (ρ:Rho) (d:PyData):setX i ρ (some (.exc d)) = some (.ex d ρ):=rfl
theorem tryF_ex {i:Nat} {c:List Str} {H:Rho → Option Out} {ρ ρ':Rho} {x:PyData} (h:c.contains (clsD x) = true) (hh:H (ρ.set i (some x)) = some (.nx ρ')):tryF i c H (some (.ex x ρ)) = some (.nx (ρ'.set i none)):=by
  show (if c.contains (clsD x) = true then (H (ρ.set i (some x))).map (Out.unset i) else none) = _
  rw [if_pos h,hh]
  rfl
noncomputable def isTr:Option Bool → Bool
  | some true=>true
  | _=>false
noncomputable def isFa:Option Bool → Bool
  | some false=>true
  | _=>false
theorem isTr_eq {x:Option Bool} (h:isTr x = true):x = some true:=by
  unfold isTr at h
  split at h
  · rfl
  · exact L2.no_ft h
theorem isFa_eq {x:Option Bool} (h:isFa x = true):x = some false:=by
  unfold isFa at h
  split at h
  · rfl
  · exact L2.no_ft h
theorem and2 {a b:Bool} (h:(a && b) = true):a = true ∧ b = true:=by
  rw [Bool.and_eq_true] at h
  exact h
end L2
namespace L2
open PySem PySem.Spec PyProof.Rows
variable [Reg]
section
variable {P:Program} {w:World} {K:PySem.W.Frag} {h:Heap} {mg:Str → Option Value} {base:Heap} {x:Str} {st:Stmt} {k:Nat} {ps:List Str} {T:Ty}
theorem FnAt.okX {F:List PyData → Option RX} (d:FnAt K x st) (X:K.In h) (G:h.Ns mainGlobals mg)
    (hb:∀ (kV doc pm:Value) (an:Option Addr) (cdv ct:Value) (us:List Value),us.length = ps.length → bindArgs (PySem.W.fnOf x x (defArgs st) (defBody st) (defScope st) .none kV doc pm an cdv ct) ⟨us,[]⟩ = pure (ps.zip us))
    (ok:∀ f fd,PySem.W.nsIn K mainGlobals x = some (some (.ref f)) → Fun K x x st f fd → FnOk P w K mg base (CXe P w) k f fd ps (spX K T F)):DefX P w K mg base k x ps T F:=by
  cases d with
  | mk f fd a D=>exact ⟨f,fd,ok f fd a D,PySem.W.mg_of X G a,D.kp,D.binds hb,a⟩
end
noncomputable def refAt:Option (Option Value) → Option Addr
  | some (some (.ref C))=>some C
  | _=>none
theorem refAt_some {o:Option (Option Value)} {C:Addr} (h:refAt o = some C):o = some (some (.ref C)):=by
  cases o with
  | none=>exact L2.no_ns h
  | some v=>cases v with
    | none=>exact L2.no_ns h
    | some v=>cases v with
      | ref a=>cases h; rfl
      | _=>exact L2.no_ns h
noncomputable def clsAt (K:PySem.W.Frag) (x:Str):Addr:=(refAt (PySem.W.nsIn K mainGlobals x)).getD 0
noncomputable def isCls (K:PySem.W.Frag) (x:Str):Bool:=(refAt (PySem.W.nsIn K mainGlobals x)).isSome
variable {K:PySem.W.Frag} {h:Heap} {mg:Str → Option Value} {exs:List Str} {x T:Str}
theorem clsAt_eq {C:Addr} (e:PySem.W.nsIn K mainGlobals x = some (some (.ref C))):clsAt K x = C:=by unfold clsAt; rw [e]; rfl
theorem isCls_eq (q:isCls K x = true):PySem.W.nsIn K mainGlobals x = some (some (.ref (clsAt K x))):=by
  unfold isCls at q
  refine L2.o_E (Option.isSome_iff_exists.mp q) fun C e=>?_
  have e2:=refAt_some e
  rw [clsAt_eq e2]
  exact e2
noncomputable def sameB (o:Option Bool) (b:Bool):Bool:=bif b then isTr o else isFa o
theorem sameB_eq {o:Option Bool} {b:Bool} (q:sameB o b = true):o = some b:=by
  cases b with
  | true=>exact isTr_eq q
  | false=>exact isFa_eq q
noncomputable def isTs (K:PySem.W.Frag) (exs:List Str) (T:Str):Bool:=isCls K T && (exs.all (fun c=>excKit K (clsAt K c) && sameB (PySem.W.kitOne K (.ref (clsAt K c)) (.ref (clsAt K T))) (subX c T)) && isFa (PySem.W.kitOne K (.type "NoneType") (.ref (clsAt K T))))
noncomputable def isVs (K:PySem.W.Frag) (exs:List Str):Bool:=exs.all (fun c=>excKit K (clsAt K c) && isTr (PySem.W.kitOne K (.ref (clsAt K c)) (.type "ValueError"))) && isFa (PySem.W.kitOne K (.type "NoneType") (.type "ValueError"))
noncomputable def exAll (K:PySem.W.Frag) (exs:List Str) (D:Addr):Bool:=exs.all fun c=>isTr (PySem.W.exmOne K (.ref (clsAt K c)) (.ref D))
theorem isT_of (X:K.In h) (G:h.Ns mainGlobals mg) {Ts:List Str} (q:Ts.all (isTs K exs) = true) (i:Nat) (hi:Ts[i]? = some T):IsT K mg exs T (clsAt K T):=by
  have q1:=List.all_eq_true.mp q T (List.mem_of_getElem? hi)
  refine L2.o_A (and2 q1) fun a q1=>?_
  refine L2.o_A (and2 q1) fun b c=>?_
  refine ⟨PySem.W.mg_of X G (isCls_eq a),fun cls hc C hC=>?_,isFa_eq c⟩
  refine L2.o_A (and2 (List.all_eq_true.mp b cls hc)) fun b1 b2=>?_
  rw [clsAt_eq hC] at b1 b2
  exact ⟨b1,sameB_eq b2⟩
theorem isV_of (q:isVs K exs = true):IsV K exs:=by
  refine L2.o_A (and2 q) fun b c=>?_
  refine ⟨fun cls hc C hC=>?_,isFa_eq c⟩
  refine L2.o_A (and2 (List.all_eq_true.mp b cls hc)) fun b1 b2=>?_
  rw [clsAt_eq hC] at b1 b2
  exact ⟨b1,isTr_eq b2⟩
inductive ExcAt (K:PySem.W.Frag) (x:Str):Prop
  | mk (C:Addr) (ns:PySem.W.nsIn K mainGlobals x = some (some (.ref C))) (e:XNo K C):ExcAt K x
theorem xcd_of (X:K.In h) (G:h.Ns mainGlobals mg) (q:ExcAt K x):XCD K mg x (clsAt K x):=by
  obtain ⟨C,ns,e⟩:=q
  rw [clsAt_eq ns]
  exact ⟨PySem.W.mg_of X G ns,ns,e⟩
theorem caught_of (X:K.In h) (G:h.Ns mainGlobals mg) (a:isCls K x = true) (q:exAll K exs (clsAt K x) = true):mg x = some (.ref (clsAt K x)) ∧ Caught K exs (clsAt K x):=
  ⟨PySem.W.mg_of X G (isCls_eq a),fun cls hc C hC=>by
    have b:=List.all_eq_true.mp q cls hc
    rw [clsAt_eq hC] at b
    exact isTr_eq b⟩
end L2
namespace L2
open PySem PySem.Spec PyProof.Rows
variable [Reg]
noncomputable def Itc (lo:Int) (n:Nat):It:=⟨fun i _=>i < n,fun i H x H'=>H' = H ∧ x = .int (lo + (i:Nat) * 2),fun i _=>n ≤ i⟩
theorem turn_two {P:Program} {w:World} {K:PySem.W.Frag} {tg:Expr} (it:Addr) (lo:Int) (n:Nat):Turn P w K tg (Itc lo n) [it] it (fun i h=>IsRangeIter h it (lo + (i:Nat) * 2) ((n:Int) - (i:Nat)) 2) where
  mem:=by simp
  obj:=fun i h st b hb=>by
    obtain rfl:b = it:=by simpa using hb
    exact ⟨_,st,fun v z=>by cases (show Data.fields _ = Data.cell v from z)⟩
  keep:=fun i h h' st k=>k it (by simp) _ st
  item:=by
    intro X hP hw hK hc i pins s σ H E I hf st hg
    subst hP hw hK
    refine L2.o_AAAAA (hf it (by simp)) fun f0 f1 f2 f3 f4 f5=>?_
    refine (Walks.range (prog:=X.prog) (w:=X.w) (I.ok.hd hc) it lo 2 n).item i s _ _ hg st fun v h' tk hv st' kk=>?_
    revert hv
    refine fun zqq=>L2.o_E zqq fun t zq1=>?_
    clear zqq
    subst zq1
    have I1:Inv X pins σ H { s with heap:=h',toks:=tk }:=I.turned (fun b o hb e=>kk b o (by simpa using hb) e) f0 f1 f3 f4 f5
    exact ⟨_,rfl,go_of (s:={ s with heap:=h',toks:=tk }) (n:="range_iterator") st' rfl rfl (by decide) ⟨.int (lo + (i:Nat) * 2),H,I1,⟨t,rfl⟩,⟨rfl,rfl⟩,st',fun b hb=>(hf b hb).1⟩⟩
  done:=by
    intro X hP hw hK hc i pins s σ H E I hf st hg
    subst hP hw hK
    refine L2.o_AAAAA (hf it (by simp)) fun f0 f1 f2 f3 f4 f5=>?_
    exact wpAny_pyNext_range_end (I.ok.hd hc) st (by have:n ≤ i:=hg; (clear f3; omega)) fun h' eb=>⟨rfl,I.turned (t':=s.toks) (fun b o hb e=>eb b o hb e) f0 f1 f3 f4 f5⟩
  self:=fun _ _ _ _ _ st h=>wpAny_pyIter_rangeiter st h
theorem size_two (a b:Int):Builtin.Range.rangeSize a b 2 = (((b - a + 1) / 2).toNat:Int):=by
  unfold Builtin.Range.rangeSize
  rw [if_pos (by decide)]
  split <;> omega
theorem small_two {a b:Int} (ha:-(2 ^ 61) ≤ a) (ha':a < 2 ^ 61) (hb:-(2 ^ 61) ≤ b) (hb':b < 2 ^ 61):Builtin.Range.small a b 2 = true:=by
  have h:((((b - a + 1) / 2).toNat:Nat):Int) ≤ 2 ^ 62:=by omega
  have h0:=Int.natCast_nonneg ((b - a + 1) / 2).toNat
  unfold Builtin.Range.small
  rw [size_two]
  generalize ((((b - a + 1) / 2).toNat:Nat):Int) = k at h h0
  simp only [Builtin.Range.rangeFitsLong,Bool.and_eq_true,Bool.or_eq_true,decide_eq_true_eq,beq_iff_eq,show (2:Int) > 0 by decide,if_true]
  omega
section
variable {X:Cx} {tg:Expr}
noncomputable def iRng3 (ta:TA):TI:=fun σ H R=>ta σ H fun vs H1=>∃ i j:Int,vs = [.int i,.int j,.int 2] ∧ (-(2 ^ 61) ≤ i ∧ i < 2 ^ 61 ∧ -(2 ^ 61) ≤ j ∧ j < 2 ^ 61) ∧ R (Itc i ((j - i + 1) / 2).toNat) H1
theorem range_two {pins:List (Addr × Obj)} {σ:St} {H:Hp} {s:Shared} {R:It → Hp → Prop} {E:Value → Shared → Prop} {lo hi:Int} {t u v:Tok} {tk:Nat} (I:Inv X pins σ H s) (h1:-(2 ^ 61) ≤ lo) (h2:lo < 2 ^ 61) (h3:-(2 ^ 61) ≤ hi) (h4:hi < 2 ^ 61)
    (q:R (Itc lo ((hi - lo + 1) / 2).toNat) H):wpAny (model X.prog X.w) X.A (pyIter (.ref s.heap.objs.size)) (PIE X pins σ tg R) E { s with heap:=s.heap.push { cls:=.type "range",data:=.fields #[.int lo t,.int hi u,.int 2 v] },toks:=tk }:=by
  refine wpAny_pyIter_range (IsRange.new ..) (small_two h1 h2 h3 h4) ?_
  have I1:Inv X pins σ H { s with heap:=s.heap.push { cls:=.type "range",data:=.fields #[.int lo t,.int hi u,.int 2 v] },toks:=tk }:=I.kept fun b o e=>Heap.get?_push_of_some _ e
  refine L2.i_EEEEEAAAAA (_) ([(s.heap.push { cls:=.type "range",data:=.fields #[.int lo t,.int hi u,.int 2 v] }).objs.size]) (_) (_) (H) (rfl) (I1.kept (t':=tk) fun b o e=>Heap.get?_push_of_some _ e) (turn_two _ lo ((hi - lo + 1) / 2).toNat) ?_ (fun b hb=>?_) (q)
  · show IsRangeIter _ _ (lo + ((0:Nat):Int) * 2) (((((hi - lo + 1) / 2).toNat:Nat):Int) - ((0:Nat):Int)) 2
    rw [show lo + ((0:Nat):Int) * 2 = lo by simp,show (((((hi - lo + 1) / 2).toNat:Nat):Int) - ((0:Nat):Int)) = Builtin.Range.rangeSize lo hi 2 by rw [size_two]; (clear h4 h3 h2 h1; omega)]
    exact Heap.get?_push_size _ rfl
  · obtain rfl:b = (s.heap.push { cls:=.type "range",data:=.fields #[.int lo t,.int hi u,.int 2 v] }).objs.size:=by simpa using hb
    exact I1.fpOk (Nat.le_refl _) (I1.hok.fresh (Nat.le_refl _))
theorem pi_range3 {a b c:Expr} {ta:TA} {p pos:Pos} (hg:Gl X "range") (hm:X.mg "range" = none) (ha:PA X [a,b,c] ta) (hs:autoParam (starEach [a,b,c] X.env = [(false,eval a X.env),(false,eval b X.env),(false,eval c X.env)]) L2.ar._auto_1) (hs2:autoParam (starEach [b,c] X.env = [(false,eval b X.env),(false,eval c X.env)]) L2.ar._auto_1) :
    PI X tg (.Call (.Name "range" p) [a,b,c] [] pos) (iRng3 ta):=by
  intro pins s σ H R I h
  refine Call_ (ld_blt I hg hm boot_range (PyProof.Rows.callWith_type1 (thn (ha pos pins s σ H _ I h) fun us s1 ⟨vs,H1,I1,r1,q1⟩=>?_) (by rw [hs,hs2]) (by rw [hs2]; rfl)))
  obtain ⟨i,j,e,⟨q1,q2,q3,q4⟩,q⟩:=q1
  subst e
  cases r1 with
  | cons r rr=>
    cases rr with
    | cons r' rr=>
      cases rr with
      | cons r'' rr=>
        cases rr
        revert r
        refine fun zqq=>L2.o_E zqq fun t zq1=>?_
        clear zqq
        subst zq1
        revert r'
        refine fun zqq=>L2.o_E zqq fun t' zq1=>?_
        clear zqq
        subst zq1
        revert r''
        refine fun zqq=>L2.o_E zqq fun t'' zq1=>?_
        clear zqq
        subst zq1
        exact call_range_3 (by decide) (range_two I1 q1 q2 q3 q4 q) (.inl (PyProof.noPylong_small (by decide)))
noncomputable def three:List PyData → Option (PyData × PyData × PyData)
  | [d,e,f]=>some (d,e,f)
  | _=>none
theorem three_some {ds:List PyData} {p:PyData × PyData × PyData} (h:three ds = some p):ds = [p.1,p.2.1,p.2.2]:=by
  cases ds with
  | nil=>exact L2.no_ns h
  | cons a r=>
    cases r with
    | nil=>exact L2.no_ns h
    | cons b r=>
      cases r with
      | nil=>exact L2.no_ns h
      | cons c r=>
        cases r with
        | nil=>rw [← Option.some.inj h]
        | cons d r=>exact L2.no_ns h
noncomputable def rngL2 (lo:Int) (n:Nat):List PyData:=(List.range n).map fun i=>.int (lo + (i:Nat) * 2)
noncomputable def rng3D (ds:List PyData):Option (List PyData):=(three ds).bind fun p=>(intO p.1).bind fun i=>(intO p.2.1).bind fun j=>(intO p.2.2).bind fun k=>if (decide (i.natAbs < 2 ^ 60) && (decide (j.natAbs < 2 ^ 60) && decide (k = 2))) = true then some (rngL2 i ((j - i + 1) / 2).toNat) else none
theorem nat_61 {j:Int} (h:j.natAbs < 2 ^ 60):-(2 ^ 61) ≤ j ∧ j < 2 ^ 61:=by omega
theorem rng3D_some {ds es:List PyData} (h:rng3D ds = some es):∃ i j,ds = [.int i,.int j,.int 2] ∧ (-(2 ^ 61) ≤ i ∧ i < 2 ^ 61 ∧ -(2 ^ 61) ≤ j ∧ j < 2 ^ 61) ∧ es = rngL2 i ((j - i + 1) / 2).toNat:=by
  obtain ⟨p,h1,g1⟩:=bind_some h
  obtain ⟨i,h2,g2⟩:=bind_some g1
  obtain ⟨j,h3,g3⟩:=bind_some g2
  obtain ⟨k,h4,g4⟩:=bind_some g3
  obtain rfl:=three_some h1
  rw [intO_some h2,intO_some h3,intO_some h4]
  split at g4
  · rename_i hc
    rw [Bool.and_eq_true,Bool.and_eq_true] at hc
    have hc1:=nat_61 (of_decide_eq_true hc.1)
    have hc2:=nat_61 (of_decide_eq_true hc.2.1)
    rw [of_decide_eq_true hc.2.2]
    exact L2.i_EEAA (i) (j) (rfl) (⟨hc1.1,hc1.2,hc2.1,hc2.2⟩) ((Option.some.inj g4).symm)
  · exact L2.no_ns g4
theorem good_two {K:PySem.W.Frag} {G:Hp} (lo:Int) (n:Nat):GoodIt K (Itc lo n) G (rngL2 lo n) where
  go:=fun H2 i s h=>by
    have:i < n:=by simpa [rngL2] using h
    exact this
  yld:=fun H2 i x H3 d s h y=>by
    revert y
    refine fun zqq=>L2.o_A zqq fun zq0 zq1=>?_
    clear zqq
    subst zq0
    subst zq1
    unfold rngL2 at h
    rw [List.getElem?_map] at h
    refine L2.o_EA (Option.map_eq_some_iff.mp h) fun j hj zq2=>?_
    subst zq2
    refine L2.o_E (List.getElem?_eq_some_iff.mp hj) fun h1 h2=>?_
    rw [List.getElem_range] at h2
    subst h2
    exact .inl ⟨rfl,.int _⟩
  stop:=fun H2 s=>by
    show n ≤ (rngL2 lo n).length
    simp [rngL2]
variable {O:Ow} {a b c:Expr} {p pos:Pos} {fs:Rho → Option (List PyData)}
theorem iv_rng3 (hg:Gl X "range") (hm:X.mg "range" = none) (ha:PAr X O [a,b,c] fs) (hs:autoParam (starEach [a,b,c] X.env = [(false,eval a X.env),(false,eval b X.env),(false,eval c X.env)]) L2.ar._auto_1) (hs2:autoParam (starEach [b,c] X.env = [(false,eval b X.env),(false,eval c X.env)]) L2.ar._auto_1) :
    PIv X O tg (.Call (.Name "range" p) [a,b,c] [] pos) (fun ρ=>(fs ρ).bind rng3D):=
  (pi_range3 hg hm ha hs hs2).imp fun σ H R zpat=>by
    obtain ⟨hid,H0,ρ,ow,ds,E,hf,k⟩:=zpat
    obtain ⟨es,h1,h2⟩:=bind_some hf
    refine L2.o_EEAA (rng3D_some h2) fun i j zq2 h3 zq4=>?_
    subst zq2
    subst zq4
    refine ⟨hid,H0,ρ,ow,_,E,h1,fun vs H' s D=>?_⟩
    refine L2.o_EEAA (denl_cons D) fun v ws zq2 D1 D'=>?_
    subst zq2
    refine L2.o_EEAA (denl_cons D') fun v2 ws2 zq2 D2 D''=>?_
    subst zq2
    refine L2.o_EEAA (denl_cons D'') fun v3 ws3 zq2 D3 D4=>?_
    subst zq2
    exact L2.i_EEAA (i) (j) (by rw [den_int D1,den_int D2,den_int D3,denl_nil D4]) (h3) (k _ H' s (good_two i _))
end
end L2
namespace L2
open PySem PySem.Spec PyProof.Rows
theorem rev_no_len:typeLookup (.type "list_reverseiterator") "__len__" = pure none:=by rw [typeLookup_type,builtinLookup_eq_fast]; kernel_rfl
theorem rev_hint:typeLookup (.type "list_reverseiterator") "__length_hint__" = pure (some (.builtin "list_reverseiterator.__length_hint__")):=by rw [typeLookup_type,builtinLookup_eq_fast]; kernel_rfl
theorem rev_self:isSubtype (.type "list_reverseiterator") (.type "list_reverseiterator") = pure true:=by rw [isSubtype_type]; kernel_rfl
section
variable {P:Program} {w:World} {A:Around} {E:Value → Shared → Prop} {s:Shared}
theorem hint_R {J:Addr} {Q:Bool → Shared → Prop} (ty:s.TypeIs (.ref J) "list_reverseiterator") (h:Q false s):wpAny (model P w) A (Builtin.List.listLengthHint (.ref J)) Q E s:=by
  unfold Builtin.List.listLengthHint
  refine wpAny_bind (wpAny_specialOf ty rev_no_len ?_)
  refine wpAny_bind (wpAny_specialOf ty rev_hint ?_)
  generalize e0:("list_reverseiterator.__length_hint__":String) = nm
  wp_delta
  rw [show splitId nm = some ("list_reverseiterator","__length_hint__") from by subst e0; decide +kernel]
  subst e0
  refine wpAny_bind (wpAny_isInstance (T:="list_reverseiterator") (b:=true) ty rev_self (wpAny_ite_split (fun z=>absurd z (by decide)) fun _=>wpAny_ite_split (fun _=>?_) fun z=>absurd (by decide +kernel) z))
  exact wpAny_ite_split (fun z=>absurd z (by decide +kernel)) fun _=>wpAny_pure h
theorem items_rev {items acc:Array Value} (h:ItemsOf (fun i v=>items[items.size - 1 - i]? = some v) acc items.size):acc = items.toList.reverse.toArray:=by
  refine L2.o_A (h) fun h1 h2=>?_
  apply Array.ext
  · rw [h1]; simp
  · intro i h3 h4
    have h5:items[items.size - 1 - i]? = some acc[i]:=h2 i acc[i] (Array.getElem?_eq_getElem h3)
    have h6:i < items.size:=by (clear h5 h4 h2 h; omega)
    rw [Array.getElem?_eq_getElem (by (clear h6 h5 h4 h2 h; omega))] at h5
    rw [← Option.some.inj h5]
    simp
theorem call_list_rev {Q:Value → Shared → Prop} (hh:A.handled = none) {J l:Addr} {items:Array Value} (hJ:s.heap.IsRevIter J l ((items.size:Int) - 1)) (hl:s.heap.IsList l items) (hne:l ≠ J) (hz:items.size ≤ sizeLine)
    (hQ:∀ h' tk c',(∀ b o,b ≠ J → s.heap.get? b = some o → h'.get? b = some o) → h'.get? s.heap.objs.size = some { cls:=.type "list",dict:=none,data:=.seq items.toList.reverse.toArray c',slots:=#[] } → Q (.ref s.heap.objs.size) { s with heap:=h',toks:=tk }) :
    wpAny (model P w) A (call (.type "list") [.ref J]) Q E s:=by
  have hJl:J < s.heap.objs.size:=Heap.lt_size hJ.choose_spec.1
  have hll:l < s.heap.objs.size:=Heap.lt_size hl.choose_spec.1
  refine callType_codes (Q₁:=fun obj s₁=>obj = .ref s.heap.objs.size ∧ s₁ = { s with heap:=s.heap.push { cls:=.type "list",data:=.seq #[] } }) F.called_list (F.typeCall_list_1 _) F.entry_list_init
    (code_list_new _ ⟨rfl,rfl⟩) fun obj s₁ h₁=>?_
  revert h₁
  refine fun zqq=>L2.o_A zqq fun zq0 zq1=>?_
  clear zqq
  subst zq0
  subst zq1
  have hSJ:s.heap.objs.size ≠ J:=Nat.ne_of_gt hJl
  have hSl:s.heap.objs.size ≠ l:=Nat.ne_of_gt hll
  generalize hS0:s.heap.objs.size = S at hSJ hSl hQ ⊢
  have hS:(s.heap.push { cls:=.type "list",data:=.seq #[] }).get? S = some { cls:=.type "list",data:=.seq #[] }:=by rw [← hS0]; exact Heap.get?_push_size _ rfl
  refine ⟨⟨_,hS,rfl⟩,F.args_list_init_2 _ _,?_⟩
  show wpAny _ A.in1.in1 (do let old ← Builtin.List.listItems (.ref S); Builtin.List.listUpdate (.ref S) (fun _=>#[]); letGo old.toList.reverse; Builtin.List.listExtendWith (.ref S) (.ref J) .none) _ _ _
  refine wpAny_bind ?_
  unfold Builtin.List.listItems
  refine wpAny_bind (wpAny_seqItems hS rfl (wpAny_pure ?_))
  show wpAny _ _ (updateSeq S (fun _=>#[]) >>= fun _=>letGo (#[]:Array Value).toList.reverse >>= fun _=>Builtin.List.listExtendWith (.ref S) (.ref J) .none) _ _ _
  refine wpAny_bind (wpAny_updateSeq hS rfl ?_)
  have hS2:=Heap.get?_update_self (Obj.mapSeq (fun _=>(#[]:Array Value))) hS rfl
  have oth1:∀ b o,b ≠ S → s.heap.get? b = some o → ((s.heap.push { cls:=.type "list",data:=.seq #[] }).update S (Obj.mapSeq (fun _=>(#[]:Array Value)))).get? b = some o:=fun b o hb e=>(Heap.get?_update_other _ _ (Ne.symm hb)).trans (Heap.get?_push_of_some _ e)
  refine wpAny_bind (wpAny_letGo ?_)
  generalize (s.heap.push { cls:=.type "list",data:=.seq #[] }).update S (Obj.mapSeq (fun _=>(#[]:Array Value))) = h1 at hS2 oth1
  have hJ1:h1.IsRevIter J l ((items.size:Int) - 1):=hJ.at fun o e=>oth1 J o (Ne.symm hSJ) e
  have hl1:h1.IsList l items:=hl.at fun o e=>oth1 l o (Ne.symm hSl) e
  have W:=(Walks.listRev (prog:=P) (w:=w) (A:=A.in1.in1) hh J l hne items).toS
  have key:∀ (h:Heap) (c1 tk:Nat),(items.size:Nat) = items.size → h.IsRevIter J l ((items.size:Int) - 1) → h.IsList l items → (∀ b o,b ≠ S → s.heap.get? b = some o → h.get? b = some o) → h.get? S = some { cls:=.type "list",data:=.seq #[] c1 } →
      codeAny (model P w) A.in1 (.builtin "list.extend.loop" ⟨[.ref S,.ref J,.none],[]⟩) (wants (fun r s₂=>r = .none ∧ Q (.ref S) s₂) E) { s with heap:=h,toks:=tk }:=by
    intro h c1 tk _ hj hlh hk hSh
    refine codeAny_extend_loopS W hz S (by simp [hSJ,hSl]) .none items.size 0 _ #[] c1 rfl (Nat.zero_le _) ⟨Nat.zero_le _,by simpa using hj,hlh⟩ hSh (ItemsOf.nil _) fun s' acc' c' hm hS' hacc=>?_
    rw [Moved.eq_with hm]
    refine ⟨rfl,?_⟩
    rw [items_rev hacc] at hS'
    refine hQ s'.heap s'.toks c' (fun b o hb e=>hm.heap b o (fun hmem=>?_) (hk b o (fun z=>?_) e)) hS'
    · rcases List.mem_cons.mp hmem with e' | hmem
      · rw [e',← hS0] at e; exact absurd (Heap.lt_size e) (Nat.lt_irrefl _)
      · exact hb (List.mem_singleton.mp hmem)
    · rw [z,← hS0] at e; exact absurd (Heap.lt_size e) (Nat.lt_irrefl _)
  unfold Builtin.List.listExtendWith
  refine wpAny_bind (wpAny_typeOf (s:={ s with heap:=h1 }) hJ1.typeIs ?_)
  have n1:Builtin.List.listSameRef (.ref S) (.ref J) = false:=by simp [Builtin.List.listSameRef,hSJ]
  simp only [n1,show (Value.type "list_reverseiterator" == Value.type "list") = false by decide,show (Value.type "list_reverseiterator" == Value.type "tuple") = false by decide,Bool.or_false,Bool.false_eq_true,if_false]
  refine wpAny_bind (wpAny_pyIter_revIter hJ1 ?_)
  refine wpAny_bind (wpAny_holding (hint_R (s:={ s with heap:=h1 }) hJ1.typeIs ?_))
  refine wpAny_ite_split (fun _=>?_) (fun _=>wpAny_pure ⟨plainId_quiet F.plain_extend_loop _,key _ _ _ rfl hJ1 hl1 oth1 hS2⟩)
  refine wpAny_bind (wpAny_rule ?_)
  refine wpAny_bind ?_
  show wpAny _ _ (updateSeq S (·.push .none) >>= fun _=>updateSeq S (·.pop)) _ _ _
  refine wpAny_bind (wpAny_updateSeq hS2 rfl ?_)
  have u1:=Heap.get?_update_self (Obj.mapSeq (·.push Value.none)) hS2 rfl
  refine wpAny_updateSeq (hz:=by seq_fits) u1 rfl ?_
  have u2:=Heap.get?_update_self (Obj.mapSeq (·.pop)) u1 rfl
  have oth:∀ b o,b ≠ S → h1.get? b = some o → ((h1.update S (Obj.mapSeq (·.push Value.none))).update S (Obj.mapSeq (·.pop))).get? b = some o:=fun b o hb e=>(Heap.get?_update_other _ _ (Ne.symm hb)).trans ((Heap.get?_update_other _ _ (Ne.symm hb)).trans e)
  exact wpAny_pure ⟨plainId_quiet F.plain_extend_loop _,key _ _ _ rfl (hJ1.at fun o e=>oth J o (Ne.symm hSJ) e) (hl1.at fun o e=>oth l o (Ne.symm hSl) e) (fun b o hb e=>oth b o hb (oth1 b o hb e)) u2⟩
end
theorem bt_listR:bootBuiltins "list" = some (.type "list"):=by decide +kernel
theorem bt_revR:bootBuiltins "reversed" = some (.type "reversed"):=by decide +kernel
section
variable [Reg] {X:Cx} {O:Ow} {a:Expr} {fa:Rho → Option PyData} {p p2 pos pos2:Pos}
theorem fr_listrev (hc:X.calm = true) (hg:Gl X "list") (hm:X.mg "list" = none) (hg2:Gl X "reversed") (hm2:X.mg "reversed" = none) (ha:PR X O a fa)
    (he:autoParam (starEach [.Call (.Name "reversed" p2) [a] [] pos2] X.env = (false,eval (.Call (.Name "reversed" p2) [a] [] pos2) X.env) :: starEach [] X.env) L2.ar._auto_1) (hpl:autoParam ((backTo pos (starEach [] X.env)).any (·.1) = false) L2.ar._auto_1)
    (he2:autoParam (starEach [a] X.env = (false,eval a X.env) :: starEach [] X.env) L2.ar._auto_1) (hpl2:autoParam ((backTo pos2 (starEach [] X.env)).any (·.1) = false) L2.ar._auto_1) (hn:autoParam ((backTo pos (starEach [] X.env)) = []) L2.ar._auto_1) :
    PFr X O (.Call (.Name "list" p) [.Call (.Name "reversed" p2) [a] [] pos2] [] pos) (fun ρ=>(fa ρ).bind revD):=by
  intro pins s σ H Q I h
  obtain ⟨hid,H0,ρ,ow,out,E,hf,k⟩:=h
  obtain ⟨d,g1,g2⟩:=bind_some hf
  unfold revD at g2
  split at g2
  case h_2=>cases g2
  rename_i ds
  obtain rfl:=Option.some.inj g2
  refine wpAny_Call_Name_kw (ld_blt I hg hm bt_listR ?_)
  refine PyProof.Rows.callWith_type1 ?_ he hpl
  rw [he]
  show wpAny _ _ (spliced ((false,eval (.Call (.Name "reversed" p2) [a] [] pos2) X.env) :: backTo pos (starEach [] X.env))) _ _ s
  rw [hn]
  refine Calls.spliced_cons ?_
  refine wpAny_Call_Name_kw (ld_blt I hg2 hm2 bt_revR ?_)
  refine PyProof.Rows.callWith_type1 (thn (pa_cons ha pa_nil he2 pos2 pins s σ H (fun vs H'=>∃ v,vs = [v] ∧ Same H H' ∧ Den X.K (del H' hid) v (.list ds)) I ⟨hid,H0,ρ,ow,_,E,g1,fun v H' s' D=>⟨v,rfl,s',D⟩⟩) fun us s1 zpat=>?_) he2 hpl2
  obtain ⟨vs,H1,I1,r1,v,rfl,s01,D1⟩:=zpat
  refine L2.o_EA (vals1 r1) fun u zq1 rx=>?_
  subst zq1
  obtain ⟨q,xs,rfl,q1,r3⟩:=den_lst D1
  cases rx
  refine L2.o_EAA (I1.list ((del_same _ _).seq q1)) fun its r pl hz=>?_
  have hlen:=r.length
  have hL:=pl.isList
  refine call_reversed_list hL ?_
  have hql:q < s1.heap.objs.size:=Heap.lt_size hL.choose_spec.1
  refine Calls.spliced_nil ?_
  have hrev:Heap.IsRevIter (s1.heap.push (revObj q ((its.toArray.size:Int) - 1))) s1.heap.objs.size q ((its.toArray.size:Int) - 1):=⟨_,Heap.get?_push_size _ rfl,rfl,rfl⟩
  refine call_list_rev (I.ok.hd hc) (s:={ s1 with heap:=s1.heap.push (revObj q ((its.toArray.size:Int) - 1)) }) hrev (hL.at fun o e=>Heap.get?_push_of_some _ e) (Nat.ne_of_lt hql) (by simp only [List.size_toArray]; (clear hql; omega)) fun h' tk c' hk hnew=>?_
  have szp:(s1.heap.push (revObj q ((its.toArray.size:Int) - 1))).objs.size = s1.heap.objs.size + 1:=Heap.size_push _ _
  have hkeep:∀ b o,s1.heap.get? b = some o → h'.get? b = some o:=fun b o e=>hk b o (fun z=>by rw [z] at e; exact absurd (Heap.lt_size e) (Nat.lt_irrefl _)) (Heap.get?_push_of_some _ e)
  have hfr:=I1.hok.fresh (a:=s1.heap.objs.size + 1) (Nat.le_succ _)
  have hnew':h'.get? (s1.heap.objs.size + 1) = some { cls:=.type "list",dict:=none,data:=.seq its.reverse.toArray c',slots:=#[] }:=by
    have:=hnew
    rw [show (Shared.heap { s1 with heap:=s1.heap.push (revObj q ((its.toArray.size:Int) - 1)) }).objs.size = s1.heap.objs.size + 1 from szp] at this
    exact this
  rw [show (Shared.heap { s1 with heap:=s1.heap.push (revObj q ((its.toArray.size:Int) - 1)) }).objs.size = s1.heap.objs.size + 1 from szp]
  refine ⟨.ref (s1.heap.objs.size + 1),_,I1.laid (a:=s1.heap.objs.size + 1) (t':=tk) (o:=.lst xs.reverse) hkeep (Nat.le_succ _) ⟨by rw [List.length_reverse]; exact hz,its.reverse,c',vals_rev r,hnew'⟩,rfl,?_⟩
  exact k _ _ _ (s01.trans (same_new hfr)) (s01.free hfr) upd_same ((r3.rev).mono (del_new (same_new hfr) hfr fun b z=>by rcases z with z | z; exact .inl z; exact .inr (by simpa using z)))
end
end L2
namespace L2
open PySem PySem.Spec PyProof.Rows
section
variable {P:Program} {w:World} {A:Around} {E:Value → Shared → Prop} {s:Shared}
theorem next_tuple {it t:Addr} {i:Nat} {items:Array Value} {x:Value} {Q:Value → Shared → Prop} (hit:s.heap.IsTupleIter it t i) (ht:s.heap.IsTuple t items) (hx:items[i]? = some x)
    (hQ:∀ h',h'.IsTupleIter it t (i + 1) → Heap.SameBut it s.heap h' → Q x { s with heap:=h' }):wpAny (model P w) A (Builtin.SmallTypes.nextOf (.ref it)) Q E s:=by
  refine L2.o_EAA (id hit) fun o ho hc hd=>?_
  refine L2.o_EAAE (ht) fun ol hol _ nl hdl=>?_
  unfold Builtin.SmallTypes.nextOf
  refine wpAny_bind (wpAny_callSpecial?_slot (name:=Str.ofString "__next__") hit.typeIs F.slot_tuple_iterator_next (wpAny_call_entry F.slot_tuple_iterator_next hit.typeIs F.entry_tuple_iterator_next ?_ (F.args_tuple_iterator_next_1 _)))
  refine (show wpAny _ _ (field (.ref it) 0 >>= _) _ _ s from wpAny_bind (wpAny_field ho hd (x:=.ref t) rfl ?_))
  show wpAny _ _ (if (Value.ref t == Value.none) = true then _ else _) _ _ s
  rw [if_neg (show ¬ (Value.ref t == Value.none) = true from Bool.false_ne_true)]
  refine (show wpAny _ _ (field (.ref it) 1 >>= _) _ _ s from wpAny_bind (wpAny_field ho hd (x:=.int i 0) rfl ?_))
  refine (show wpAny _ _ (seqItems? (.ref t) >>= _) _ _ s from wpAny_bind (wpAny_seqItems hol hdl ?_))
  simp only [Int.toNat_natCast,hx]
  refine wpAny_bind (wpAny_setField ho hd (by simp) (wpAny_pure ⟨x,rfl,wpAny_pure (hQ _ ⟨_,Heap.get?_update_self _ ho (Obj.isFreed_of_fields (Obj.data_mapFields hd _)),(Obj.cls_mapFields ..).trans hc,?_⟩ (Heap.SameBut.update ..))⟩))
  rw [Obj.data_mapFields hd]
  simp [rawInt]
theorem next_tuple_end {it t:Addr} {i:Nat} {items:Array Value} {Q:Value → Shared → Prop} (hh:A.handled = none) (hit:s.heap.IsTupleIter it t i) (ht:s.heap.IsTuple t items) (hx:items[i]? = none)
    (hE:∀ h' e,Heap.ExtBut it s.heap h' → (∃ o,h'.get? e = some o ∧ o.cls = .type "StopIteration") → E (.ref e) { s with heap:=h' }):wpAny (model P w) A (Builtin.SmallTypes.nextOf (.ref it)) Q E s:=by
  refine L2.o_EAA (id hit) fun o ho hc hd=>?_
  refine L2.o_EAAE (ht) fun ol hol _ nl hdl=>?_
  unfold Builtin.SmallTypes.nextOf
  refine wpAny_bind (wpAny_callSpecial?_slot (name:=Str.ofString "__next__") hit.typeIs F.slot_tuple_iterator_next (wpAny_call_entry F.slot_tuple_iterator_next hit.typeIs F.entry_tuple_iterator_next ?_ (F.args_tuple_iterator_next_1 _)))
  refine (show wpAny _ _ (field (.ref it) 0 >>= _) _ _ s from wpAny_bind (wpAny_field ho hd (x:=.ref t) rfl ?_))
  show wpAny _ _ (if (Value.ref t == Value.none) = true then _ else _) _ _ s
  rw [if_neg (show ¬ (Value.ref t == Value.none) = true from Bool.false_ne_true)]
  refine (show wpAny _ _ (field (.ref it) 1 >>= _) _ _ s from wpAny_bind (wpAny_field ho hd (x:=.int i 0) rfl ?_))
  refine (show wpAny _ _ (seqItems? (.ref t) >>= _) _ _ s from wpAny_bind (wpAny_seqItems hol hdl ?_))
  simp only [Int.toNat_natCast,hx]
  refine wpAny_bind (wpAny_rule (wpAny_bind (wpAny_setField ho hd (by simp) ?_)))
  refine (show wpAny _ _ (newExc (.type "StopIteration") [] >>= _) _ _ _ from wpAny_bind ?_)
  simp only [newExc,newTuple]
  refine wpAny_bind (wpAny_newObj_type ?_ (by size_fits))
  refine wpAny_bind (m:=firstArgMember _ _) (wpAny_of_eq (a:=Value.none) (by first | rfl | (simp only [firstArgMember]; rfl)) ?_)
  refine wpAny_newObj_type ?_ (by size_fits)
  simp only [raiseNew]
  refine wpAny_bind (wpAny_handled ?_)
  first | rw [show A.in1.handled = none from hh] | rw [hh]
  exact wpAny_bind (wpAny_pure (wpAny_throw (hE _ _ (((Heap.SameBut.update ..).extBut.push _).push _) ⟨_,Heap.get?_push_size _ rfl,rfl⟩)))
theorem draws_tuple (hh:A.handled = none) (it l:Addr) (hne:l ≠ it) (items:Array Value):Draws P w A it [it,l] items.size (fun i v=>items[i]? = some v) (fun i h=>h.IsTupleIter it l i ∧ h.IsTuple l items) where
  live:=fun _ _ st=>by obtain ⟨⟨o,ho,_⟩,_⟩:=st; exact ⟨o,ho⟩
  frame:=fun _ _ _ st hk=>⟨st.1.at fun o e=>hk it (by simp) o e,st.2.at fun o e=>hk l (by simp) o e⟩
  item:=fun i s Q E hi st hQ=>next_tuple st.1 st.2 (x:=items[i]) (by simp [hi]) fun h' hit' hs'=>hQ _ h' s.toks (by simp [hi]) ⟨hit',st.2.at fun o e=>(hs'.2 l hne).trans e⟩ hs'
  done:=fun s Q E st hE=>next_tuple_end hh st.1 st.2 (by simp) hE
theorem enum_endT {e it l:Addr} {i:Nat} {items:Array Value} {old:Value} {Q:Option Value → Shared → Prop} (hh:A.handled = none) (he:IsEnum s.heap e it i old) (hit:s.heap.IsTupleIter it l i) (ht:s.heap.IsTuple l items) (hx:items[i]? = none)
    (hQ:∀ h',Heap.ExtBut it s.heap h' → Q none { s with heap:=h' }):wpAny (model P w) A (pyNext (.ref e)) Q E s:=by
  have hT:s.TypeIs (.ref e) "enumerate":=⟨_,he,rfl⟩
  unfold pyNext
  refine wpAny_bind (wpAny_attempt (wpAny_callSpecial?_slot (name:=Str.ofString "__next__") hT F.slot_enumerate_next (wpAny_call_entry F.slot_enumerate_next hT F.entry_enumerate_next ?_ (F.args_enumerate_next_1 _))))
  refine (show wpAny _ _ (field (.ref e) 2 >>= _) _ _ _ from wpAny_bind (wpAny_field he rfl (x:=.ref it) rfl ?_))
  refine wpAny_bind (next_tuple_end (by exact hh) hit ht hx fun h' x he' hx'=>?_)
  refine L2.o_EA (hx') fun o ho hc=>?_
  exact wpAny_bind (wpAny_isInstance (T:="StopIteration") (b:=true) ⟨o,ho,hc⟩ isSubtype_stop (wpAny_pure (hQ _ he')))
theorem new_enumT (l:Addr) (items:Array Value) (n:Nat) (dct:Option Addr) (sl:Array (Option Value)) :
    Meets (Builtin.«enumerate.__new__» ⟨[.type "enumerate",.ref l],[]⟩) (fun _ R s=>s.heap.get? l = some { cls:=.type "tuple",dict:=dct,data:=.seq items n,slots:=sl } ∧
      R (.ok (.ret (.ref (s.heap.push { cls:=.type "tuple_iterator",data:=.fields #[.ref l,.int 0 0] }).objs.size)))
        { s with heap:=(s.heap.push { cls:=.type "tuple_iterator",data:=.fields #[.ref l,.int 0 0] }).push { cls:=.type "enumerate",data:=.fields #[.none,.bool false,.ref s.heap.objs.size,rawInt 0,.none,.none] } }):=
  .of_wp fun prog w A R s h=>by
    obtain ⟨hp,g,d,tk,os⟩:=s
    revert h
    refine fun zqq=>L2.o_A zqq fun hl h=>?_
    clear zqq
    have hsub:=sub_enumerate
    have hL:Heap.IsTuple (Shared.heap ⟨hp,g,d,tk,os⟩) l items:=⟨_,hl,rfl,n,rfl⟩
    wp_walk using AutoSeq1.wpAny_loadPart' hl
    refine wpAny_stack_any fun st=>wpAny_pure ?_
    split
    · rename_i c _ _ _ _ _
      cases (c == Value.type "enumerate") <;> (wp_walk using AutoSeq1.wpAny_loadPart' hl,wpAny_pyIter_tuple hL; exact ⟨_,rfl,h⟩)
    · wp_walk using AutoSeq1.wpAny_loadPart' hl,wpAny_pyIter_tuple hL
      exact ⟨_,rfl,h⟩
theorem call_enumT {l:Addr} {items:Array Value} {Q:Value → Shared → Prop} (hL:s.heap.IsTuple l items)
    (h:∀ h',IsEnum h' (s.heap.objs.size + 1) s.heap.objs.size 0 .none → h'.IsTupleIter s.heap.objs.size l 0 → h'.objs.size = s.heap.objs.size + 2 → (∀ b o,s.heap.get? b = some o → h'.get? b = some o) → Q (.ref (s.heap.objs.size + 1)) { s with heap:=h' }) :
    wpAny (model P w) A (call (.type "enumerate") [.ref l]) Q E s:=by
  obtain ⟨⟨c,dct,dt,sl⟩,hl,hc,n,hd⟩:=hL
  replace hc:c = .type "tuple":=hc
  replace hd:dt = .seq items n:=hd
  subst hc hd
  refine callType_new F.called_enumerate (by decide) (F.typeCall_enumerate_1 _) (F.newCall_enumerate_1 _) (fun obj=>F.args_object_init_2 obj _) F.entry_enumerate_new (new_enumT l items n dct sl) ⟨hl,?_⟩
  have hz:(s.heap.push { cls:=.type "tuple_iterator",data:=.fields #[.ref l,.int 0 0] }).objs.size = s.heap.objs.size + 1:=Heap.size_push ..
  show _ ∧ _
  rw [hz]
  have he:IsEnum ((s.heap.push { cls:=.type "tuple_iterator",data:=.fields #[.ref l,.int 0 0] }).push { cls:=.type "enumerate",data:=.fields #[.none,.bool false,.ref s.heap.objs.size,rawInt 0,.none,.none] }) (s.heap.objs.size + 1) s.heap.objs.size 0 .none:=by
    have:=Heap.get?_push_size (s.heap.push { cls:=.type "tuple_iterator",data:=.fields #[.ref l,.int 0 0] }) (o:={ cls:=.type "enumerate",data:=.fields #[.none,.bool false,.ref s.heap.objs.size,rawInt 0,.none,.none] }) rfl
    rw [hz] at this
    exact this
  exact ⟨⟨_,he,rfl⟩,h _ he ⟨_,Heap.get?_push_of_some _ (Heap.get?_push_size _ rfl),rfl,rfl⟩ (by rw [Heap.size_push,hz]) fun b o x=>Heap.get?_push_of_some _ (Heap.get?_push_of_some _ x)⟩
end
noncomputable def IteT (K:PySem.W.Frag) (a:Addr):It:=
  ⟨fun i H=>∃ xs x,SqT K H a xs ∧ xs[i]? = some x,fun i H x H'=>∃ p v,H p = none ∧ H' = upd H p (.tup [.int i,v]) ∧ x = .ref p ∧ ∀ xs,SqT K H a xs → xs[i]? = some v,fun i H=>∃ xs,SqT K H a xs ∧ xs.length ≤ i⟩
theorem Inv.drew {X:Cx} {pins:List (Addr × Obj)} {σ:St} {H:Hp} {s:Shared} (I:Inv X pins σ H s) {ch:List Addr} {h':Heap} {tk:Nat} {xs:List V} {us:List Value} (hf:∀ b ∈ ch,FpOk X pins H b) (hk:∀ b o,b ∉ ch → s.heap.get? b = some o → h'.get? b = some o)
    (hT:h'.get? s.heap.objs.size = some { cls:=.type "tuple",data:=.seq us.toArray }) (r:Vals xs us) (hz:xs.length ≤ sizeLine):Inv X pins σ (upd H s.heap.objs.size (.tup xs)) { s with heap:=h',toks:=tk }:=by
  have hfr:H s.heap.objs.size = none:=I.hok.fresh (Nat.le_refl _)
  have nin:∀ b o,H b = some o → b ∉ ch:=fun b o q hb=>L2.no_ns ((hf b hb).1.symm.trans q)
  have up:∀ {b:Addr} {o:HO},H b = some o → upd H s.heap.objs.size (.tup xs) b = some o:=fun {b o} q=>by rw [upd_ne (ne_of_none q hfr)]; exact q
  refine I.step (g':=s.gens) (d':=s.drawn) (ch:=ch) (fun b hb=>?_) (fun b o _ _ hb q _=>hk b o hb q) (fun b o _ _ hb q _=>⟨o.slots,hk b o hb q⟩) (fun b o hb q n=>by rw [upd_ne (Nat.ne_of_lt (Heap.lt_size q))]; exact n) (fun b o hb q=>⟨o,hk b o hb q⟩)
    (fun b ys q=>up q) (fun b o ys q=>up q) (fun b ps q=>⟨#[],by rw [up q,Array.append_empty]⟩) (fun b q=>up q) (fun m hm=>?_) (fun b o q=>?_) I.bare
  · refine L2.o_AAAAA (hf b hb) fun f0 f1 f2 f3 f4 f5=>?_
    exact ⟨f3,f1,f4,f5⟩
  · refine L2.o_EEEA (hm) fun o es' ep ho' r=>?_
    exact L2.i_EEEA (o) (es') (ep) (hk _ o (fun hb=>(hf _ hb).2.1 rfl) ho') (r)
  · by_cases hb:b = s.heap.objs.size
    · subst hb
      rw [upd_same] at q
      obtain rfl:=Option.some.inj q
      exact ⟨hz,us,r,⟨_,hT,rfl,_,rfl⟩⟩
    · rw [upd_ne hb] at q
      refine (I.hok b o q).stay (fun c v hc q'=>hk c v ?_ q') (fun c q'=>up q') (fun c ys q'=>up q') fun c ob ys _ _ q'=>up q'
      rcases hc with hc | hc
      · rw [hc]; exact nin b o q
      · exact nin c _ hc
theorem Inv.ended {X:Cx} {pins:List (Addr × Obj)} {σ:St} {H:Hp} {s:Shared} (I:Inv X pins σ H s) {ch:List Addr} {h':Heap} {tk:Nat} (hf:∀ b ∈ ch,FpOk X pins H b) (eb:∀ b o,b ∉ ch → s.heap.get? b = some o → h'.get? b = some o):Inv X pins σ H { s with heap:=h',toks:=tk }:=by
  have nin:∀ b o,H b = some o → b ∉ ch:=fun b o q hb=>L2.no_ns ((hf b hb).1.symm.trans q)
  refine I.step (g':=s.gens) (d':=s.drawn) (ch:=ch) (fun b hb=>?_) (fun b o _ _ hb q _=>eb b o hb q) (fun b o _ _ hb q _=>⟨o.slots,eb b o hb q⟩) (fun b o hb q n=>n) (fun b o hb q=>⟨o,eb b o hb q⟩)
    (fun b ys q=>q) (fun b o ys q=>q) (fun b ps q=>⟨#[],by rw [q,Array.append_empty]⟩) (fun b q=>q) (fun m hm=>?_) (fun b o q=>?_) I.bare
  · refine L2.o_AAAAA (hf b hb) fun f0 f1 f2 f3 f4 f5=>?_
    exact ⟨f3,f1,f4,f5⟩
  · refine L2.o_EEEA (hm) fun o es' ep ho' r=>?_
    exact L2.i_EEEA (o) (es') (ep) (eb _ o (fun hb=>(hf _ hb).2.1 rfl) ho') (r)
  · refine (I.hok b o q).stay (fun c v hc q'=>eb c v ?_ q') (fun c q'=>q') (fun c ys q'=>q') fun c ob ys _ _ q'=>q'
    rcases hc with hc | hc
    · rw [hc]; exact nin b o q
    · exact nin c _ hc
theorem turn_enumT {P:Program} {w:World} {K:PySem.W.Frag} {es:List Expr} {x1} {tpos:Pos} (a e it:Addr) (hne:e ≠ it):Turn P w K (.Tuple es x1 tpos) (IteT K a) [e,it] e (fun i h=>(∃ old,IsEnum h e it ((i:Nat):Int) old) ∧ h.IsTupleIter it a i) where
  mem:=by simp
  obj:=fun i h st b hb=>by
    obtain ⟨⟨old,h1⟩,o,e2,c,d⟩:=st
    rcases List.mem_cons.mp hb with rfl | hb
    · exact ⟨_,h1,fun v z=>by cases (show Data.fields _ = Data.cell v from z)⟩
    · have:b = it:=by simpa using hb
      subst this
      exact ⟨o,e2,fun v z=>by rw [d] at z; cases z⟩
  keep:=fun i h h' st k=>by
    obtain ⟨⟨old,h1⟩,h2⟩:=st
    exact ⟨⟨old,k e (by simp) _ h1⟩,h2.at fun o q=>k it (by simp) o q⟩
  item:=by
    intro X hP hw hK hc i pins s σ H E I hf st hg
    subst hP hw hK
    refine L2.o_EEA (hg) fun xs x hq hx=>?_
    refine L2.o_EAA (I.tuple hq) fun its rv p hz=>?_
    refine L2.o_EA (rv.get hx) fun u hu ru=>?_
    obtain ⟨⟨old,h1⟩,h2⟩:=st
    refine L2.o_AAAAA (hf e (by simp)) fun f0 f1 f2 f3 f4 f5=>?_
    refine L2.o_AAAAA (hf it (by simp)) fun g0 g1 g2 g3 g4 g5=>?_
    have he:e < s.heap.objs.size:=Heap.lt_size h1
    have hi:it < s.heap.objs.size:=by obtain ⟨o,q,_⟩:=id h2; exact Heap.lt_size q
    have hai:a ≠ it:=fun z=>by
      refine L2.o_EAA (id h2) fun o q c _=>?_
      refine L2.o_EAA (id p) fun o2 q2 c2 _=>?_
      rw [z,q] at q2
      obtain rfl:=Option.some.inj q2
      rw [c] at c2
      injection c2 with c2
      exact absurd c2 (by decide)
    have hae:a ≠ e:=fun z=>by
      refine L2.o_EAA (id p) fun o2 q2 c2 _=>?_
      rw [z,h1] at q2
      obtain rfl:=Option.some.inj q2
      injection c2 with c2
      exact absurd c2 (by decide)
    refine wpAny_pyNext_enum_itemD (draws_tuple (A:=X.A.in1) (I.ok.hd hc) it a hai its.toArray) h1 ⟨h2,p⟩ (by rw [List.size_toArray]; exact (List.getElem?_eq_some_iff.mp hu).1) hne (by simp [hne,Ne.symm hae]) fun x' h' tk hx' ho hst' hT hsz hk=>?_
    have hit':=hst'.1
    have ex:x' = u:=by
      have:its.toArray[i]? = some u:=by simpa using hu
      rw [this] at hx'
      exact (Option.some.inj hx').symm
    subst ex
    refine ⟨_,rfl,wpAny_letOwnedTupleGo_enum (s:={ s with heap:=h',toks:=tk + 1 }) ho fun h3 he3 hs3=>?_⟩
    have hs3':Heap.SameBut e h' h3:=hs3
    have hT3:h3.get? s.heap.objs.size = some { cls:=.type "tuple",data:=.seq #[.int i tk,x'] }:=(hs3'.2 _ (Nat.ne_of_gt he)).trans hT
    have hk3:∀ b o,b ∉ [e,it] → s.heap.get? b = some o → h3.get? b = some o:=fun b o hb q=>(hs3'.2 b (fun z=>hb (by simp [z]))).trans (hk b o (fun z=>hb (by simp [z])) (fun z=>hb (by simp [z])) q)
    have hfr:H s.heap.objs.size = none:=I.hok.fresh (Nat.le_refl _)
    have I3:Inv X pins σ (upd H s.heap.objs.size (.tup [.int i,x])) { s with heap:=h3,toks:=tk + 1 }:=I.drew (us:=[.int i tk,x']) hf hk3 hT3 (.cons ⟨_,rfl⟩ (.cons ru .nil)) (by show 2 ≤ sizeLine; decide)
    refine L2.i_EEAAAA (.ref s.heap.objs.size) (_) (I3) (rfl) (⟨_,x,hfr,rfl,rfl,fun ys hy=>by rw [I.tuple_inj hy hq]; exact hx⟩) (⟨⟨x',?_⟩,hit'.at fun o q=>(hs3'.2 it (Ne.symm hne)).trans q⟩) (fun b hb=>?_)
    · have:((i + 1:Nat):Int) = (i:Int) + 1:=by push_cast; rfl
      rw [this]
      exact he3
    · rcases List.mem_cons.mp hb with rfl | hb
      · rw [upd_ne (Nat.ne_of_lt he)]; exact f0
      · have z:b = it:=by simpa using hb
        subst z
        rw [upd_ne (Nat.ne_of_lt hi)]; exact g0
  done:=by
    intro X hP hw hK hc i pins s σ H E I hf st hg
    subst hP hw hK
    refine L2.o_EA (hg) fun xs hq hx=>?_
    refine L2.o_EAA (I.tuple hq) fun its rv p hz=>?_
    obtain ⟨⟨old,h1⟩,h2⟩:=st
    refine L2.o_AAAAA (hf it (by simp)) fun g0 g1 g2 g3 g4 g5=>?_
    have hl:=rv.length
    exact enum_endT (I.ok.hd hc) h1 h2 p (by simp; (clear g3 hz; omega)) fun h' eb=>⟨rfl,I.turned (t':=s.toks) (fun b o hb q=>eb b o hb q) g0 g1 g3 g4 g5⟩
  self:=fun _ _ _ _ _ st h=>wpAny_pyIter_enum st.1.choose_spec h
noncomputable def iEnumT (K:PySem.W.Frag) (tl:TE):TI:=fun σ H R=>tl σ H fun x H1=>∃ a,x = .ref a ∧ (∃ xs,SqT K H1 a xs) ∧ R (IteT K a) H1
theorem pi_enumT {X:Cx} {es:List Expr} {x1} {tpos p pos:Pos} {l:Expr} {tl:TE} (hg:Gl X "enumerate") (hm:X.mg "enumerate" = none) (hl:PE X l tl) (hs:autoParam (starEach [l] X.env = [(false,eval l X.env)]) L2.ar._auto_1) :
    PI X (.Tuple es x1 tpos) (.Call (.Name "enumerate" p) [l] [] pos) (iEnumT X.K tl):=by
  intro pins s σ H R I h
  have ha:=pa_cons (X:=X) hl pa_nil hs
  refine Call_ (ld_blt I hg hm PyProof.Rows.boot_enumerate (PyProof.Rows.callWith_type1 (thn (ha pos pins s σ H (fun vs H1=>∃ a,vs = [.ref a] ∧ (∃ xs,SqT X.K H1 a xs) ∧ R (IteT X.K a) H1) I ?_) fun us s1 ⟨vs,H1,I1,r1,q1⟩=>?_) hs rfl))
  · have mono:∀ (Q Q':VK),True:=fun _ _=>True.intro
    show tl σ H fun x H1=>∃ a,[x] = [.ref a] ∧ (∃ xs,SqT X.K H1 a xs) ∧ R (IteT X.K a) H1
    have e:(fun (x:V) (H1:Hp)=>∃ a,[x] = [V.ref a] ∧ (∃ xs,SqT X.K H1 a xs) ∧ R (IteT X.K a) H1) = fun x H1=>∃ a,x = .ref a ∧ (∃ xs,SqT X.K H1 a xs) ∧ R (IteT X.K a) H1:=by
      funext x H1
      simp
    rw [e]
    exact h
  · obtain ⟨a,rfl,⟨xs,hq⟩,q⟩:=q1
    refine L2.o_EA (r1.one) fun u zq1 ru=>?_
    subst zq1
    cases ru
    refine L2.o_EAA (I1.tuple hq) fun its rv pl hz=>?_
    refine call_enumT pl fun h' he hit hsz hk=>?_
    refine wpAny_pyIter_enum he ?_
    have I2:Inv X pins σ H1 { s1 with heap:=h' }:=I1.kept (t':=s1.toks) hk
    refine L2.i_EEEEEAAAAA (s1.heap.objs.size + 1) ([s1.heap.objs.size + 1,s1.heap.objs.size]) (_) (_) (H1) (rfl) (I2) (turn_enumT a _ _ (Nat.succ_ne_self _)) (⟨⟨_,he⟩,hit⟩) (fun b hb=>?_) (q)
    have hb':s1.heap.objs.size ≤ b:=by
      rcases List.mem_cons.mp hb with rfl | hb
      · exact Nat.le_succ _
      · have:b = s1.heap.objs.size:=by simpa using hb
        rw [this]
        exact Nat.le_refl _
    exact I1.fpOk hb' (I1.hok.fresh hb')
variable [Reg]
theorem good_enumT {K:PySem.W.Frag} {G:Hp} {a:Addr} {xs:List V} {ds:List PyData} (q:SqT K G a xs) (r:DenL K G xs ds):GoodIt K (IteT K a) G (enumL ds) where
  go:=fun H2 i s h=>by
    rw [enumL_len] at h
    have hl:i < xs.length:=by rw [r.length]; exact h
    exact L2.i_EEA (xs) (xs[i]) (s.tup q) (by simp [hl])
  yld:=fun H2 i x H3 d s h y=>by
    refine L2.o_EA (enumL_get h) fun e h1 zq2=>?_
    subst zq2
    revert y
    refine fun zqq=>L2.o_EEAAA zqq fun p v hp zq3 zq4 y=>?_
    clear zqq
    subst zq3
    subst zq4
    refine L2.o_EA (r.get h1) fun v' h2 h3=>?_
    have:=y xs (s.tup q)
    rw [h2] at this
    obtain rfl:=Option.some.inj this
    exact .inr ⟨p,_,_,hp,rfl,rfl,rfl,.cons (.int _) (.cons h3 .nil)⟩
  stop:=fun H2 s=>⟨xs,s.tup q,by rw [r.length,enumL_len]; exact Nat.le_refl _⟩
theorem iv_enumT {X:Cx} {O:Ow} {es:List Expr} {x1} {tpos p pos:Pos} {e:Expr} {f:Rho → Option PyData} (hg:Gl X "enumerate") (hm:X.mg "enumerate" = none) (h:PV X O e f) (hs:autoParam (starEach [e] X.env = [(false,eval e X.env)]) L2.ar._auto_1) :
    PIv X O (.Tuple es x1 tpos) (.Call (.Name "enumerate" p) [e] [] pos) (fun ρ=>((f ρ).bind tupD).map enumL):=(pi_enumT hg hm h hs).imp fun σ H R zpat=>by
  obtain ⟨hid,H0,ρ,ow,ds,E,hf,k⟩:=zpat
  obtain ⟨ds',g1,rfl⟩:=map_some hf
  obtain ⟨d,h1,h2⟩:=bind_some g1
  rw [tupD_some h2] at h1
  refine ⟨hid,H0,ρ,ow,_,E,h1,fun v H' s D=>?_⟩
  obtain ⟨a,xs,rfl,q,r⟩:=den_tup D
  exact ⟨a,rfl,⟨xs,(del_same _ _).tup q⟩,k _ H' s (good_enumT q r)⟩
end L2
namespace L2
open PySem PySem.Spec PyProof.Rows
variable [Reg]
theorem EnvOk.lend {K:PySem.W.Frag} {O:Ow} {hid:Addr → Prop} {H0 H:Hp} {σ:St} {ρ:Rho} {ow:List Addr} (E:EnvOk K O hid H0 σ H ρ ow) {i:Nat} {es0:List PyData} (hi:O.s.lookup i = some (.lst .cl)) (hρ:ρ[i]? = some (some (.list es0))) :
    ∃ l,σ[i]? = some (some (.ref l)) ∧ ∀ (j:Nat) (us:List V) (ds:List PyData) (T:Ty) (F:List PyData → Option (PyData × List PyData)) (r:PyData × List PyData) (Q:VK),us[j]? = some (.ref l) → ds.length = us.length → ds[j]? = some (.list es0) →
      (∀ (m:Nat) (v:V) (d:PyData),m ≠ j → us[m]? = some v → ds[m]? = some d → Den K (del H (uni hid ow)) v d) → F ds = some r →
      (∀ v H',EnvOk K O hid H0 σ H' (ρ.set i (some (.list r.2))) ow → Same (del H (uni hid ow)) (del H' (uni hid ow)) → Den K (del H' (uni hid ow)) v r.1 → Q v H') → SpIO K j T F us H Q:=by
  refine L2.o_EEAAAA (E.at0 hi hρ) fun l vs h1 h2 h3 h4 h5=>?_
  refine ⟨l,h1,fun j us ds T F r Q g1 g2 g3 g4 g5 k=>?_⟩
  have hlo:uni hid ow l:=.inr h4
  have hu:uni (fun b=>uni hid ow b ∧ b ≠ l) [l] = uni hid ow:=by
    funext b
    apply propext
    constructor
    · rintro (z | z)
      · exact z.1
      · rw [List.mem_singleton.mp z]; exact hlo
    · intro z
      by_cases e:b = l
      · exact .inr (List.mem_singleton.mpr e)
      · exact .inl ⟨z,e⟩
  have big:∀ (as:List Addr) (b:Addr),uni hid ow b → uni (fun b=>uni hid ow b ∧ b ≠ l) (l :: as) b:=fun as b z=>by
    by_cases e:b = l
    · exact .inr (by rw [e]; exact List.mem_cons_self)
    · exact .inl ⟨z,e⟩
  refine ⟨fun b=>uni hid ow b ∧ b ≠ l,l,vs,es0,ds,r,fun b z=>E.uniL b z.1,fun z=>z.2 rfl,g1,h2,by rw [hu]; exact h3,g2,g3,fun m v d hm a b=>by rw [hu]; exact g4 m v d hm a b,g5,fun v as H' ws' s' hl' hD n Dv=>?_⟩
  have s2:Same H (upd H' l (.lst vs)):=fun b o e=>by
    by_cases hb:b = l
    · rw [hb,upd_same]; rw [hb] at e; rw [h2] at e; exact e
    · rw [upd_ne hb]; exact s' b o (by rw [del_neq hb]; exact e)
  have e2:upd (upd H' l (.lst vs)) l (.lst ws') = H':=by
    funext b
    by_cases hb:b = l
    · rw [hb,upd_same]; exact hl'.symm
    · rw [upd_ne hb,upd_ne hb]
  have q:=h5 _ s2 ws' r.2 (by rw [del_upd hlo]; exact hD.mono (del_sub (big as)))
  rw [e2] at q
  refine k v H' q (fun b o z=>?_) (Dv.raw (del_sub (big as)) fun p hp o z=>?_)
  · by_cases hb:uni hid ow b
    · rw [del_in hb] at z; cases z
    · rw [del_out hb] at z ⊢
      exact s' b o (by rw [del_neq fun e=>hb (by rw [e]; exact hlo)]; exact z)
  · rw [del_out (E.fresh (n p hp))]
    exact z
section
variable {X:Cx} {O:Ow} {a b e:Expr} {es:List Expr} {pos p:Pos} {k:Nat} {ps:List Str} {x:Str} {T:Ty}
variable {ga:Rho → Option (Bool × Rho)} {gb:Rho → Option Bool} {rest:List Expr}
end
end L2
namespace L2
open PySem PySem.Spec PyProof.Rows
section
variable {X:Cx}
end
variable [Reg]
section
variable {X:Cx} {O:Ow} {a b e:Expr} {pos:Pos} {f:Rho → Option PyData}
end
end L2
namespace L2
open PySem PySem.Spec PyProof.Rows
variable [Reg]
section
variable {X:Cx} {O:Ow} {e:Expr} {pos:Pos} {f:Rho → Option PyData} {T:Ty}
end
end L2
namespace L2
open PySem PySem.Spec PyProof.Rows
variable [Reg]
noncomputable def zipL (xs ys:List PyData):List PyData:=List.zipWith (fun x y=>.tuple [x,y]) xs ys
noncomputable def zipO (x y:Option (List PyData)):Option (List PyData):=x.bind fun a=>y.map fun b=>zipL a b
theorem zipL_get {ds es:List PyData} {i:Nat} {d:PyData} (h:(zipL ds es)[i]? = some d):∃ x y,ds[i]? = some x ∧ es[i]? = some y ∧ d = .tuple [x,y]:=by
  unfold zipL at h
  rw [List.getElem?_zipWith] at h
  cases h1:ds[i]? with
  | none=>rw [h1] at h; cases h2:es[i]? <;> rw [h2] at h <;> cases h
  | some p=>
    cases h2:es[i]? with
    | none=>rw [h1,h2] at h; cases h
    | some q=>
      rw [h1,h2] at h
      exact L2.i_EEAA (p) (q) (rfl) (rfl) ((Option.some.inj h).symm)
end L2
namespace L2
open PySem PySem.Spec PyProof.Rows
structure ZAp (z TI TO i1 i2:Addr) (f1 f2:List Addr):Prop where
  nd:[z,TI,TO,i1,i2].Nodup
  a1:z ∉ f1 ∧ TO ∉ f1 ∧ i2 ∉ f1
  a2:z ∉ f2 ∧ TO ∉ f2 ∧ i1 ∉ f2
theorem ZAp.ne {z TI TO i1 i2:Addr} {f1 f2:List Addr} (ap:ZAp z TI TO i1 i2 f1 f2):(z ≠ TI ∧ z ≠ TO ∧ z ≠ i1 ∧ z ≠ i2) ∧ (TI ≠ TO ∧ TI ≠ i1 ∧ TI ≠ i2) ∧ (TO ≠ i1 ∧ TO ≠ i2) ∧ i1 ≠ i2:=by
  have nd:=ap.nd
  simp only [List.nodup_cons,List.mem_cons,List.not_mem_nil,or_false,not_or,List.nodup_nil,and_true,not_false_eq_true] at nd
  exact nd
theorem nin4 {x a b c d:Addr} (h:x ∉ [a,b,c,d]):x ≠ a ∧ x ≠ b ∧ x ≠ c ∧ x ≠ d:=by
  simp only [List.mem_cons,List.not_mem_nil,or_false,not_or] at h
  exact h
theorem nin4' {x a b c d:Addr} (h:x ≠ a ∧ x ≠ b ∧ x ≠ c ∧ x ≠ d):x ∉ [a,b,c,d]:=by
  simp only [List.mem_cons,List.not_mem_nil,or_false,not_or]
  exact h
theorem mem45 {x a b c d e:Addr} (h:x ∈ [a,c,d,e]):x ∈ [a,b,c,d,e]:=(List.mem_cons.mp h).elim (fun z=>z ▸ List.mem_cons_self) fun z=>List.mem_cons_of_mem _ (List.mem_cons_of_mem _ z)
theorem mem5 {P:Addr → Prop} {x a b c d e:Addr} (h:x ∈ [a,b,c,d,e]) (ha:P a) (hb:P b) (hc:P c) (hd:P d) (he:P e):P x:=by
  simp only [List.mem_cons,List.not_mem_nil,or_false] at h
  rcases h with rfl | rfl | rfl | rfl | rfl <;> assumption
section
variable {P:Program} {w:World} {A:Around} {E:Value → Shared → Prop} {s:Shared} {z TI TO i1 i2:Addr} {f1 f2:List Addr} {n1 n2 k1 k2:Nat} {P1 P2:Nat → Value → Prop} {S1 S2:Nat → Heap → Prop} {a b:Value}
theorem stay {it c:Addr} {f:List Addr} {n k:Nat} {Pv:Nat → Value → Prop} {S:Nat → Heap → Prop} (D:Draws P w A it f n Pv S) {h h':Heap} (st:S k h) (x:Heap.ExtBut c h h') (hc:c ∉ f):S k h':=D.frame k h h' st fun b hb o e=>x b o (fun y=>hc (y ▸ hb)) e
theorem zipD_item {Q:Value → Shared → Prop} (D1:Draws P w A i1 f1 n1 P1 S1) (D2:Draws P w A i2 f2 n2 P2 S2) (ap:ZAp z TI TO i1 i2 f1 f2) (hz:IsZip s.heap z TI TO .none) (hTI:IsPair s.heap TI (.ref i1) (.ref i2)) (hTO:IsPair s.heap TO a b)
    (st1:S1 k1 s.heap) (st2:S2 k2 s.heap) (l1:k1 < n1) (l2:k2 < n2)
    (hQ:∀ x y h' tk,P1 k1 x → P2 k2 y → IsZip h' z TI TO (rawInt s.heap.objs.size) → IsPair h' TO x y → S1 (k1 + 1) h' → S2 (k2 + 1) h' → IsPair h' s.heap.objs.size x y → h'.objs.size = s.heap.objs.size + 1 →
      (∀ c o,c ∉ [z,TO,i1,i2] → s.heap.get? c = some o → h'.get? c = some o) → Q (.ref s.heap.objs.size) { s with heap:=h',toks:=tk }) :
    wpAny (model P w) A (Builtin.«zip.__next__» ⟨[.ref z],[]⟩) (fun fin s'=>∃ v,fin = .done (.ret v) ∧ Q v s') E s:=by
  obtain ⟨⟨q1,q2,q3,q4⟩,⟨q5,q6,q7⟩,⟨q8,q9⟩,q10⟩:=ap.ne
  refine (show wpAny _ _ (field (.ref z) 2 >>= _) _ _ _ from wpAny_bind (wpAny_field hz rfl (x:=.bool false) rfl ?_))
  refine (show wpAny _ _ (field (.ref z) 3 >>= _) _ _ _ from wpAny_bind (wpAny_field hz rfl (x:=.ref TI) rfl (wpAny_bind (wpAny_seqItems hTI rfl ?_))))
  refine (show wpAny _ _ (Builtin.SmallTypes.ownedTupleIsFree (.ref z) >>= _) _ _ _ from wpAny_bind ?_)
  unfold Builtin.SmallTypes.ownedTupleIsFree
  refine wpAny_bind (wpAny_field hz rfl (x:=.none) rfl (wpAny_pure ?_))
  simp only [if_true]
  refine wpAny_bind (wpAny_rule (wpAny_bind (wpAny_field hz rfl (x:=.ref TO) rfl (wpAny_bind (wpAny_setField_rec hz (by simp) fun g1 e1 b1=>wpAny_bind ?_)))))
  replace e1:IsZip g1 z TI TO .ellipsis:=e1
  simp only [List.zipIdx_cons,List.zipIdx_nil,List.forIn_cons,List.forIn_nil]
  refine wpAny_bind (wpAny_bind (wpAny_onRaise ?_))
  refine (show wpAny _ _ (Builtin.SmallTypes.nextOf (.ref i1) >>= _) _ _ _ from wpAny_bind (D1.item k1 _ _ _ l1 (stay D1 st1 b1.extBut ap.a1.1) fun x g2 t2 px s12 b2=>wpAny_pure ?_))
  replace b2:Heap.SameBut i1 g1 g2:=b2
  have p2:IsPair g2 TO a b:=b2.extBut _ _ q8 (b1.extBut _ _ (Ne.symm q2) hTO)
  refine wpAny_bind (wpAny_seqItems p2 rfl (wpAny_bind (wpAny_updateSeq_pair p2 fun g3 p3 b3=>wpAny_bind (wpAny_letGo (wpAny_pure ?_)))))
  replace p3:IsPair g3 TO x b:=p3
  replace b3:Heap.SameBut TO g2 g3:=b3
  refine wpAny_bind (wpAny_bind (wpAny_onRaise ?_))
  have st2':S2 k2 g3:=stay D2 (stay D2 (stay D2 st2 b1.extBut ap.a2.1) b2.extBut ap.a2.2.2) b3.extBut ap.a2.2.1
  refine (show wpAny _ _ (Builtin.SmallTypes.nextOf (.ref i2) >>= _) _ _ _ from wpAny_bind (D2.item k2 _ _ _ l2 st2' fun y g4 t4 py s24 b4=>wpAny_pure ?_))
  replace b4:Heap.SameBut i2 g3 g4:=b4
  have p4:IsPair g4 TO x b:=b4.extBut _ _ q9 p3
  refine wpAny_bind (wpAny_seqItems p4 rfl (wpAny_bind (wpAny_updateSeq_pair p4 fun g5 p5 b5=>wpAny_bind (wpAny_letGo (wpAny_pure (wpAny_pure ?_))))))
  replace p5:IsPair g5 TO x y:=p5
  replace b5:Heap.SameBut TO g4 g5:=b5
  refine wpAny_bind (wpAny_seqItems p5 rfl (wpAny_bind (wpAny_newTuple ?_)))
  have hsz:g5.objs.size = s.heap.objs.size:=by rw [b5.1,b4.1,b3.1,b2.1,b1.1]
  have e5:IsZip g5 z TI TO .ellipsis:=b5.extBut _ _ q2 (b4.extBut _ _ q4 (b3.extBut _ _ q2 (b2.extBut _ _ q3 e1)))
  have zlt:z < g5.objs.size:=Heap.lt_size e5
  refine (show wpAny _ _ (Builtin.SmallTypes.ownedTupleHandOut (.ref z) (.ref g5.objs.size) >>= _) _ _ _ from wpAny_bind ?_)
  unfold Builtin.SmallTypes.ownedTupleHandOut
  have e6:IsZip (g5.push { cls:=.type "tuple",data:=.seq #[x,y] }) z TI TO .ellipsis:=Heap.get?_push_of_some _ e5
  refine wpAny_bind (wpAny_setField_rec e6 (by simp) fun g7 e7 b7=>?_)
  replace e7:IsZip g7 z TI TO (rawInt g5.objs.size):=e7
  refine wpAny_setField_rec e7 (by simp) fun g8 e8 b8=>wpAny_pure ⟨_,rfl,?_⟩
  replace e8:IsZip g8 z TI TO (rawInt g5.objs.size):=e8
  have up:∀ c o,c ≠ z → g5.get? c = some o → g8.get? c = some o:=fun c o hc e=>b8.extBut _ _ hc (b7.extBut _ _ hc (Heap.get?_push_of_some _ e))
  have T8:IsPair g8 g5.objs.size x y:=b8.extBut _ _ (Nat.ne_of_gt zlt) (b7.extBut _ _ (Nat.ne_of_gt zlt) (Heap.get?_push_size _ rfl))
  have z8:g8.objs.size = g5.objs.size + 1:=by rw [b8.1,b7.1,Heap.size_push]
  show Q (.ref g5.objs.size) _
  rw [hsz] at e8 T8 z8 ⊢
  refine hQ x y g8 _ px py e8 (up _ _ (Ne.symm q2) p5) ?_ ?_ T8 z8 fun c o hc e=>?_
  · exact D1.frame _ g5 g8 (stay D1 (stay D1 (stay D1 s12 b3.extBut ap.a1.2.1) b4.extBut ap.a1.2.2) b5.extBut ap.a1.2.1) fun c hc o e=>up c o (fun y=>ap.a1.1 (y ▸ hc)) e
  · exact D2.frame _ g5 g8 (stay D2 s24 b5.extBut ap.a2.2.1) fun c hc o e=>up c o (fun y=>ap.a2.1 (y ▸ hc)) e
  · have hc:=nin4 hc
    exact up c o hc.1 (b5.extBut _ _ hc.2.1 (b4.extBut _ _ hc.2.2.2 (b3.extBut _ _ hc.2.1 (b2.extBut _ _ hc.2.2.1 (b1.extBut _ _ hc.1 e)))))
theorem zipD_end {Q:Fin → Shared → Prop} (D1:Draws P w A i1 f1 n1 P1 S1) (D2:Draws P w A i2 f2 n2 P2 S2) (ap:ZAp z TI TO i1 i2 f1 f2) (hz:IsZip s.heap z TI TO .none) (hTI:IsPair s.heap TI (.ref i1) (.ref i2)) (hTO:IsPair s.heap TO a b)
    (st1:S1 k1 s.heap) (st2:S2 k2 s.heap) (hend:k1 = n1 ∨ (k1 < n1 ∧ k2 = n2))
    (hE:∀ h' e tk,(∀ c o,c ∉ [z,TO,i1,i2] → s.heap.get? c = some o → h'.get? c = some o) → (∃ o,h'.get? e = some o ∧ o.cls = .type "StopIteration") → E (.ref e) { s with heap:=h',toks:=tk }) :
    wpAny (model P w) A (Builtin.«zip.__next__» ⟨[.ref z],[]⟩) Q E s:=by
  obtain ⟨⟨q1,q2,q3,q4⟩,⟨q5,q6,q7⟩,⟨q8,q9⟩,q10⟩:=ap.ne
  refine (show wpAny _ _ (field (.ref z) 2 >>= _) _ _ _ from wpAny_bind (wpAny_field hz rfl (x:=.bool false) rfl ?_))
  refine (show wpAny _ _ (field (.ref z) 3 >>= _) _ _ _ from wpAny_bind (wpAny_field hz rfl (x:=.ref TI) rfl (wpAny_bind (wpAny_seqItems hTI rfl ?_))))
  refine (show wpAny _ _ (Builtin.SmallTypes.ownedTupleIsFree (.ref z) >>= _) _ _ _ from wpAny_bind ?_)
  unfold Builtin.SmallTypes.ownedTupleIsFree
  refine wpAny_bind (wpAny_field hz rfl (x:=.none) rfl (wpAny_pure ?_))
  simp only [if_true]
  refine wpAny_bind (wpAny_rule (wpAny_bind (wpAny_field hz rfl (x:=.ref TO) rfl (wpAny_bind (wpAny_setField_rec hz (by simp) fun g1 e1 b1=>wpAny_bind ?_)))))
  replace e1:IsZip g1 z TI TO .ellipsis:=e1
  simp only [List.zipIdx_cons,List.zipIdx_nil,List.forIn_cons,List.forIn_nil]
  refine wpAny_bind (wpAny_bind (wpAny_onRaise ?_))
  rcases hend with rfl | ⟨l1,rfl⟩
  · refine (show wpAny _ _ (Builtin.SmallTypes.nextOf (.ref i1) >>= _) _ _ _ from wpAny_bind (D1.done _ _ _ (stay D1 st1 b1.extBut ap.a1.1) fun g2 e b2 he=>?_))
    replace b2:Heap.ExtBut i1 g1 g2:=b2
    refine L2.o_EA (he) fun oe hoe hce=>?_
    have e2:IsZip g2 z TI TO .ellipsis:=b2 _ _ q3 e1
    have hez:e ≠ z:=fun y=>by subst y; rw [e2] at hoe; cases hoe; simp at hce
    refine wpAny_setField_rec e2 (by simp) fun g3 _ b3=>hE g3 e _ (fun c o hc x=>?_) ⟨oe,b3.extBut _ _ hez hoe,hce⟩
    have hc:=nin4 hc
    exact b3.extBut _ _ hc.1 (b2 _ _ hc.2.2.1 (b1.extBut _ _ hc.1 x))
  · refine (show wpAny _ _ (Builtin.SmallTypes.nextOf (.ref i1) >>= _) _ _ _ from wpAny_bind (D1.item k1 _ _ _ l1 (stay D1 st1 b1.extBut ap.a1.1) fun x g2 t2 px s12 b2=>wpAny_pure ?_))
    replace b2:Heap.SameBut i1 g1 g2:=b2
    have p2:IsPair g2 TO a b:=b2.extBut _ _ q8 (b1.extBut _ _ (Ne.symm q2) hTO)
    refine wpAny_bind (wpAny_seqItems p2 rfl (wpAny_bind (wpAny_updateSeq_pair p2 fun g3 p3 b3=>wpAny_bind (wpAny_letGo (wpAny_pure ?_)))))
    replace b3:Heap.SameBut TO g2 g3:=b3
    refine wpAny_bind (wpAny_bind (wpAny_onRaise ?_))
    have st2':S2 k2 g3:=stay D2 (stay D2 (stay D2 st2 b1.extBut ap.a2.1) b2.extBut ap.a2.2.2) b3.extBut ap.a2.2.1
    refine (show wpAny _ _ (Builtin.SmallTypes.nextOf (.ref i2) >>= _) _ _ _ from wpAny_bind (D2.done _ _ _ st2' fun g4 e b4 he=>?_))
    replace b4:Heap.ExtBut i2 g3 g4:=b4
    refine L2.o_EA (he) fun oe hoe hce=>?_
    have e4:IsZip g4 z TI TO .ellipsis:=b4 _ _ q4 (b3.extBut _ _ q2 (b2.extBut _ _ q3 e1))
    have hez:e ≠ z:=fun y=>by subst y; rw [e4] at hoe; cases hoe; simp at hce
    refine wpAny_setField_rec e4 (by simp) fun g5 _ b5=>hE g5 e _ (fun c o hc x=>?_) ⟨oe,b5.extBut _ _ hez hoe,hce⟩
    have hc:=nin4 hc
    exact b5.extBut _ _ hc.1 (b4 _ _ hc.2.2.2 (b3.extBut _ _ hc.2.1 (b2.extBut _ _ hc.2.2.1 (b1.extBut _ _ hc.1 x))))
theorem nextD_item {Q:Option Value → Shared → Prop} (D1:Draws P w A.in1 i1 f1 n1 P1 S1) (D2:Draws P w A.in1 i2 f2 n2 P2 S2) (ap:ZAp z TI TO i1 i2 f1 f2) (hz:IsZip s.heap z TI TO .none) (hTI:IsPair s.heap TI (.ref i1) (.ref i2)) (hTO:IsPair s.heap TO a b)
    (st1:S1 k1 s.heap) (st2:S2 k2 s.heap) (l1:k1 < n1) (l2:k2 < n2)
    (hQ:∀ x y h' tk,P1 k1 x → P2 k2 y → IsZip h' z TI TO (rawInt s.heap.objs.size) → IsPair h' TO x y → S1 (k1 + 1) h' → S2 (k2 + 1) h' → IsPair h' s.heap.objs.size x y → h'.objs.size = s.heap.objs.size + 1 →
      (∀ c o,c ∉ [z,TO,i1,i2] → s.heap.get? c = some o → h'.get? c = some o) → Q (some (.ref s.heap.objs.size)) { s with heap:=h',toks:=tk }):wpAny (model P w) A (pyNext (.ref z)) Q E s:=by
  have hT:s.TypeIs (.ref z) "zip":=⟨_,hz,rfl⟩
  unfold pyNext
  exact wpAny_bind (wpAny_attempt (wpAny_callSpecial?_slot (name:=Str.ofString "__next__") hT F.slot_zip_next (wpAny_call_entry F.slot_zip_next hT F.entry_zip_next
    (zipD_item D1 D2 ap hz hTI hTO st1 st2 l1 l2 fun x y h' tk c1 c2 c3 c4 c5 c6 c7 c8 c9=>wpAny_pure (hQ x y h' tk c1 c2 c3 c4 c5 c6 c7 c8 c9)) (F.args_zip_next_1 _))))
theorem nextD_end {Q:Option Value → Shared → Prop} (D1:Draws P w A.in1 i1 f1 n1 P1 S1) (D2:Draws P w A.in1 i2 f2 n2 P2 S2) (ap:ZAp z TI TO i1 i2 f1 f2) (hz:IsZip s.heap z TI TO .none) (hTI:IsPair s.heap TI (.ref i1) (.ref i2)) (hTO:IsPair s.heap TO a b)
    (st1:S1 k1 s.heap) (st2:S2 k2 s.heap) (hend:k1 = n1 ∨ (k1 < n1 ∧ k2 = n2))
    (hQ:∀ h' tk,(∀ c o,c ∉ [z,TO,i1,i2] → s.heap.get? c = some o → h'.get? c = some o) → Q none { s with heap:=h',toks:=tk }):wpAny (model P w) A (pyNext (.ref z)) Q E s:=by
  have hT:s.TypeIs (.ref z) "zip":=⟨_,hz,rfl⟩
  unfold pyNext
  refine wpAny_bind (wpAny_attempt (wpAny_callSpecial?_slot (name:=Str.ofString "__next__") hT F.slot_zip_next (wpAny_call_entry F.slot_zip_next hT F.entry_zip_next
    (zipD_end D1 D2 ap hz hTI hTO st1 st2 hend fun h' e tk hk he=>?_) (F.args_zip_next_1 _))))
  refine L2.o_EA (he) fun o ho hc=>?_
  exact wpAny_bind (wpAny_isInstance (T:="StopIteration") (b:=true) ⟨o,ho,hc⟩ isSubtype_stop (wpAny_pure (hQ _ _ hk)))
end
noncomputable abbrev zh0 (h:Heap) (l1 l2:Addr):Heap:=h.push { cls:=.type "list_iterator",data:=.fields #[.ref l1,.int 0 0] }
noncomputable abbrev zh1 (h:Heap) (l1 l2:Addr):Heap:=(zh0 h l1 l2).push { cls:=.type "tuple_iterator",data:=.fields #[.ref l2,.int 0 0] }
noncomputable abbrev zh2 (h:Heap) (l1 l2:Addr):Heap:=(zh1 h l1 l2).push { cls:=.type "tuple",data:=.seq #[.ref h.objs.size,.ref (zh0 h l1 l2).objs.size] }
noncomputable abbrev zh3 (h:Heap) (l1 l2:Addr):Heap:=(zh2 h l1 l2).push { cls:=.type "tuple",data:=.seq #[.none,.none] }
noncomputable abbrev zh4 (h:Heap) (l1 l2:Addr):Heap:=(zh3 h l1 l2).push { cls:=.type "zip",data:=.fields #[.none,.bool false,.bool false,.ref (zh1 h l1 l2).objs.size,.ref (zh2 h l1 l2).objs.size] }
theorem new_zipT (l1 l2:Addr) (xs ys:Array Value) :
    Meets (Builtin.«zip.__new__» ⟨[.type "zip",.ref l1,.ref l2],[]⟩) (fun _ R s=>s.heap.IsList l1 xs ∧ s.heap.IsTuple l2 ys ∧ R (.ok (.ret (.ref (zh3 s.heap l1 l2).objs.size))) { s with heap:=zh4 s.heap l1 l2 }):=
  .of_wp fun prog w A R s h=>by
    obtain ⟨hp,g,d,tk,os⟩:=s
    revert h
    refine fun zqq=>L2.o_AA zqq fun t1 t2 h=>?_
    clear zqq
    have hsub:=sub_zip
    have L1:Heap.IsList (Shared.heap ⟨hp,g,d,tk,os⟩) l1 xs:=t1
    have L2:Heap.IsTuple (Shared.heap ⟨hp.push { cls:=.type "list_iterator",data:=.fields #[.ref l1,.int 0 0] },g,d,tk,os⟩) l2 ys:=t2.at fun o e=>Heap.get?_push_of_some _ e
    wp_walk using wpAny_pyIter_list L1,wpAny_pyIter_tuple L2
    exact ⟨_,rfl,h⟩
section
variable {P:Program} {w:World} {A:Around} {E:Value → Shared → Prop} {s:Shared}
theorem call_zipT {l1 l2:Addr} {xs ys:Array Value} {Q:Value → Shared → Prop} (t1:s.heap.IsList l1 xs) (t2:s.heap.IsTuple l2 ys)
    (h:∀ h',IsZip h' (s.heap.objs.size + 4) (s.heap.objs.size + 2) (s.heap.objs.size + 3) .none → IsPair h' (s.heap.objs.size + 2) (.ref s.heap.objs.size) (.ref (s.heap.objs.size + 1)) → IsPair h' (s.heap.objs.size + 3) .none .none →
      h'.IsListIter s.heap.objs.size l1 0 → h'.IsTupleIter (s.heap.objs.size + 1) l2 0 → (∀ c o,s.heap.get? c = some o → h'.get? c = some o) → Q (.ref (s.heap.objs.size + 4)) { s with heap:=h' }) :
    wpAny (model P w) A (call (.type "zip") [.ref l1,.ref l2]) Q E s:=by
  refine callType_new F.called_zip (by decide) (F.typeCall_zip_2 _ _) (F.newCall_zip_2 _ _) (fun obj=>F.args_object_init_3 obj _ _) F.entry_zip_new (new_zipT l1 l2 xs ys) ⟨t1,t2,?_⟩
  have up:∀ {h:Heap} {ob:Obj} {c:Addr} {o:Obj},h.get? c = some o → (h.push ob).get? c = some o:=fun e=>Heap.get?_push_of_some _ e
  have z0:(zh0 s.heap l1 l2).objs.size = s.heap.objs.size + 1:=Heap.size_push ..
  have z1:(zh1 s.heap l1 l2).objs.size = s.heap.objs.size + 2:=(Heap.size_push ..).trans (by rw [z0])
  have z2:(zh2 s.heap l1 l2).objs.size = s.heap.objs.size + 3:=(Heap.size_push ..).trans (by rw [z1])
  have z3:(zh3 s.heap l1 l2).objs.size = s.heap.objs.size + 4:=(Heap.size_push ..).trans (by rw [z2])
  have g0:(zh4 s.heap l1 l2).get? s.heap.objs.size = some { cls:=.type "list_iterator",data:=.fields #[.ref l1,.int 0 0] }:=up (up (up (up (Heap.get?_push_size s.heap rfl))))
  have g1:(zh4 s.heap l1 l2).get? (zh0 s.heap l1 l2).objs.size = some { cls:=.type "tuple_iterator",data:=.fields #[.ref l2,.int 0 0] }:=up (up (up (Heap.get?_push_size (zh0 s.heap l1 l2) rfl)))
  have g2:(zh4 s.heap l1 l2).get? (zh1 s.heap l1 l2).objs.size = some { cls:=.type "tuple",data:=.seq #[.ref s.heap.objs.size,.ref (zh0 s.heap l1 l2).objs.size] }:=up (up (Heap.get?_push_size (zh1 s.heap l1 l2) rfl))
  have g3:(zh4 s.heap l1 l2).get? (zh2 s.heap l1 l2).objs.size = some { cls:=.type "tuple",data:=.seq #[.none,.none] }:=up (Heap.get?_push_size (zh2 s.heap l1 l2) rfl)
  have g4:(zh4 s.heap l1 l2).get? (zh3 s.heap l1 l2).objs.size = some { cls:=.type "zip",data:=.fields #[.none,.bool false,.bool false,.ref (zh1 s.heap l1 l2).objs.size,.ref (zh2 s.heap l1 l2).objs.size] }:=Heap.get?_push_size (zh3 s.heap l1 l2) rfl
  show _ ∧ _
  rw [z3,z1,z2] at g4
  rw [z1,z0] at g2
  rw [z2] at g3
  rw [z0] at g1
  rw [z3]
  exact ⟨⟨_,g4,rfl⟩,h _ g4 g2 g3 ⟨_,g0,rfl,rfl⟩ ⟨_,g1,rfl,rfl⟩ fun c o x=>up (up (up (up (up x))))⟩
end
noncomputable def ItzT (K:PySem.W.Frag) (a b:Addr):It:=
  ⟨fun i H=>∃ xs ys x y,SqL K H a xs ∧ SqT K H b ys ∧ xs[i]? = some x ∧ ys[i]? = some y,fun i H x H'=>∃ p v w,H p = none ∧ H' = upd H p (.tup [v,w]) ∧ x = .ref p ∧ (∀ xs,SqL K H a xs → xs[i]? = some v) ∧ ∀ ys,SqT K H b ys → ys[i]? = some w,
    fun i H=>∃ xs ys,SqL K H a xs ∧ SqT K H b ys ∧ ((xs.length = i ∧ i ≤ ys.length) ∨ (i < xs.length ∧ ys.length = i))⟩
noncomputable def zSt (l1 l2 z TI TO i1 i2:Addr) (i:Nat) (h:Heap):Prop:=IsZip h z TI TO Value.none ∧ IsPair h TI (.ref i1) (.ref i2) ∧ (∃ a b,IsPair h TO a b) ∧ h.IsListIter i1 l1 i ∧ h.IsTupleIter i2 l2 i
theorem turn_zipT {P:Program} {w:World} {K:PySem.W.Frag} {es:List Expr} {x1} {tpos:Pos} (l1 l2 z TI TO i1 i2:Addr) (ap:ZAp z TI TO i1 i2 [i1,l1] [i2,l2]) (n1:l1 ≠ i1) (n2:l2 ≠ i2):Turn P w K (.Tuple es x1 tpos) (ItzT K l1 l2) [z,TI,TO,i1,i2] z (zSt l1 l2 z TI TO i1 i2) where
  mem:=by simp
  obj:=fun i h st b hb=>by
    obtain ⟨h1,h2,⟨a,c,h3⟩,⟨o1,e1,_,d1⟩,⟨o2,e2,_,d2⟩⟩:=st
    exact mem5 (P:=fun b=>∃ o,h.get? b = some o ∧ ∀ v,o.data ≠ .cell v) hb ⟨_,h1,fun v q=>by cases (show Data.fields _ = Data.cell v from q)⟩ ⟨_,h2,fun v q=>by cases (show Data.seq _ = Data.cell v from q)⟩ ⟨_,h3,fun v q=>by cases (show Data.seq _ = Data.cell v from q)⟩ ⟨o1,e1,fun v q=>by rw [d1] at q; cases q⟩ ⟨o2,e2,fun v q=>by rw [d2] at q; cases q⟩
  keep:=fun i h h' st k=>by
    obtain ⟨h1,h2,⟨a,c,h3⟩,h4,h5⟩:=st
    exact ⟨k z (by simp) _ h1,k TI (by simp) _ h2,⟨a,c,k TO (by simp) _ h3⟩,h4.at fun o q=>k i1 (by simp) o q,h5.at fun o q=>k i2 (by simp) o q⟩
  item:=by
    intro X hP hw hK hc i pins s σ H E I hf st hg
    subst hP hw hK
    refine L2.o_EEEEAAA (hg) fun xs ys x y hq hq' hx hy=>?_
    refine L2.o_EAA (I.list hq) fun its rv p hz=>?_
    refine L2.o_EAA (I.tuple hq') fun its' rv' p' hz'=>?_
    refine L2.o_EA (rv.get hx) fun u hu ru=>?_
    refine L2.o_EA (rv'.get hy) fun u' hu' ru'=>?_
    obtain ⟨h1,h2,⟨a,c,h3⟩,h4,h5⟩:=st
    have lt1:z < s.heap.objs.size:=Heap.lt_size h1
    have lt2:TI < s.heap.objs.size:=Heap.lt_size h2
    have lt3:TO < s.heap.objs.size:=Heap.lt_size h3
    have lt4:i1 < s.heap.objs.size:=by obtain ⟨o,q,_⟩:=id h4; exact Heap.lt_size q
    have lt5:i2 < s.heap.objs.size:=by obtain ⟨o,q,_⟩:=id h5; exact Heap.lt_size q
    refine nextD_item (Draws.list (A:=X.A.in1) (I.ok.hd hc) i1 l1 n1 its.toArray) (draws_tuple (A:=X.A.in1) (I.ok.hd hc) i2 l2 n2 its'.toArray) ap h1 h2 h3 ⟨h4,p.isList⟩ ⟨h5,p'⟩ (by rw [List.size_toArray]; exact (List.getElem?_eq_some_iff.mp hu).1) (by rw [List.size_toArray]; exact (List.getElem?_eq_some_iff.mp hu').1) fun y1 y2 h' tk px py ho hTO s1 s2 hT hsz hk=>?_
    have hi1:=s1.1
    have hi2:=s2.1
    obtain rfl:y1 = u:=Option.some.inj ((show its.toArray[i]? = some y1 from px).symm.trans (by simpa using hu))
    obtain rfl:y2 = u':=Option.some.inj ((show its'.toArray[i]? = some y2 from py).symm.trans (by simpa using hu'))
    refine ⟨_,rfl,wpAny_letOwnedTupleGo_zip (s:={ s with heap:=h',toks:=tk }) ho fun h3' he3 hs3=>?_⟩
    have hs3':Heap.SameBut z h' h3':=hs3
    have hT3:h3'.get? s.heap.objs.size = some { cls:=.type "tuple",data:=.seq #[y1,y2] }:=(hs3'.2 _ (Nat.ne_of_gt lt1)).trans hT
    have hk3:∀ b o,b ∉ [z,TO,i1,i2] → s.heap.get? b = some o → h3'.get? b = some o:=fun b o hb q=>(hs3'.2 b fun y=>hb (y ▸ List.mem_cons_self)).trans (hk b o hb q)
    have hfr:H s.heap.objs.size = none:=I.hok.fresh (Nat.le_refl _)
    obtain ⟨⟨q1,q2,q3,q4⟩,⟨q5,q6,q7⟩,⟨q8,q9⟩,q10⟩:=ap.ne
    have I3:Inv X pins σ (upd H s.heap.objs.size (.tup [x,y])) { s with heap:=h3',toks:=tk }:=I.drew (us:=[y1,y2]) (fun b hb=>hf b (mem45 hb)) hk3 hT3 (.cons ru (.cons ru' .nil)) (by show 2 ≤ sizeLine; decide)
    have at3:∀ b,b ≠ z → ∀ o,h'.get? b = some o → h3'.get? b = some o:=fun b hb o q=>(hs3'.2 b hb).trans q
    refine L2.i_EEAAAA (.ref s.heap.objs.size) (_) (I3) (rfl) (⟨_,x,y,hfr,rfl,rfl,fun zs hy'=>by rw [I.list_inj hy' hq]; exact hx,fun zs hy'=>by rw [I.tuple_inj hy' hq']; exact hy⟩) (⟨he3,hk3 TI _ (nin4' ⟨Ne.symm q1,q5,q6,q7⟩) h2,⟨y1,y2,at3 TO (Ne.symm q2) _ hTO⟩,hi1.at (at3 i1 (Ne.symm q3)),hi2.at (at3 i2 (Ne.symm q4))⟩) (fun b hb=>?_)
    rw [upd_ne ?_]
    · exact (hf b hb).1
    · exact mem5 (P:=fun b=>b ≠ s.heap.objs.size) hb (Nat.ne_of_lt lt1) (Nat.ne_of_lt lt2) (Nat.ne_of_lt lt3) (Nat.ne_of_lt lt4) (Nat.ne_of_lt lt5)
  done:=by
    intro X hP hw hK hc i pins s σ H E I hf st hg
    subst hP hw hK
    refine L2.o_EEAA (hg) fun xs ys hq hq' hx=>?_
    refine L2.o_EAA (I.list hq) fun its rv p hz=>?_
    refine L2.o_EAA (I.tuple hq') fun its' rv' p' hz'=>?_
    obtain ⟨h1,h2,⟨a,c,h3⟩,h4,h5⟩:=st
    have hl:=rv.length
    have hl':=rv'.length
    refine nextD_end (Draws.list (A:=X.A.in1) (I.ok.hd hc) i1 l1 n1 its.toArray) (draws_tuple (A:=X.A.in1) (I.ok.hd hc) i2 l2 n2 its'.toArray) ap h1 h2 h3 ⟨h4,p.isList⟩ ⟨h5,p'⟩ (by rw [List.size_toArray,List.size_toArray]; (clear hz' hz; omega)) fun h' tk eb=>⟨rfl,I.ended (fun b hb=>hf b (mem45 hb)) eb⟩
  self:=fun _ _ _ _ _ st h=>wpAny_pyIter_zip st.1 h
theorem nat2 (x y z:Nat) (h:x ≠ y ∧ x ≠ z):x ∉ [y,z]:=by simpa using h
theorem nat5 (n:Nat):[n + 4,n + 2,n + 3,n,n + 1].Nodup:=List.Pairwise.map (fun k=>n + k) (fun a b h e=>h (Nat.add_left_cancel e)) (by decide:[4,2,3,0,1].Pairwise (· ≠ ·))
theorem zap (a b n:Nat) (la:a < n) (lb:b < n):ZAp (n + 4) (n + 2) (n + 3) n (n + 1) [n,a] [n + 1,b] ∧ a ≠ n ∧ b ≠ n + 1:=
  ⟨⟨nat5 n,⟨nat2 _ _ _ (by (clear lb; omega)),nat2 _ _ _ (by (clear lb; omega)),nat2 _ _ _ (by (clear lb; omega))⟩,nat2 _ _ _ (by (clear la; omega)),nat2 _ _ _ (by (clear la; omega)),nat2 _ _ _ (by (clear la; omega))⟩,by (clear lb; omega),by (clear la; omega)⟩
noncomputable def iZipT (K:PySem.W.Frag) (ta:TA):TI:=fun σ H R=>ta σ H fun vs H1=>∃ a b,vs = [.ref a,.ref b] ∧ (∃ xs,SqL K H1 a xs) ∧ (∃ ys,SqT K H1 b ys) ∧ R (ItzT K a b) H1
theorem pi_zipT {X:Cx} {es:List Expr} {x1} {tpos p pos:Pos} {a b:Expr} {ta:TA} (hg:Gl X "zip") (hm:X.mg "zip" = none) (ha:PA X [a,b] ta) (hs:autoParam (starEach [a,b] X.env = [(false,eval a X.env),(false,eval b X.env)]) L2.ar._auto_1) (hs2:autoParam (starEach [b] X.env = [(false,eval b X.env)]) L2.ar._auto_1) :
    PI X (.Tuple es x1 tpos) (.Call (.Name "zip" p) [a,b] [] pos) (iZipT X.K ta):=by
  intro pins s σ H R I h
  refine Call_ (ld_blt I hg hm PyProof.Rows.boot_zip (PyProof.Rows.callWith_type1 (thn (ha pos pins s σ H _ I h) fun us s1 ⟨vs,H1,I1,r1,q1⟩=>?_) (by rw [hs,hs2]) (by rw [hs2]; rfl)))
  obtain ⟨a,b,rfl,⟨xs,hq⟩,⟨ys,hq'⟩,q⟩:=q1
  cases r1 with
  | cons ru rr=>
    cases rr with
    | cons ru' rr=>
      cases rr
      cases ru
      cases ru'
      refine L2.o_EAA (I1.list hq) fun its rv pl hz=>?_
      refine L2.o_EAA (I1.tuple hq') fun its' rv' pl' hz'=>?_
      refine call_zipT pl.isList pl' fun h' hz hTI hTO hi1 hi2 hk=>?_
      refine wpAny_pyIter_zip hz ?_
      have I2:Inv X pins σ H1 { s1 with heap:=h' }:=I1.kept (t':=s1.toks) hk
      have la:a < s1.heap.objs.size:=Heap.lt_size pl.isList.choose_spec.1
      have lb:b < s1.heap.objs.size:=Heap.lt_size pl'.choose_spec.1
      refine L2.i_EEEEEAAAAA (s1.heap.objs.size + 4) ([s1.heap.objs.size + 4,s1.heap.objs.size + 2,s1.heap.objs.size + 3,s1.heap.objs.size,s1.heap.objs.size + 1]) (_) (_) (H1) (rfl) (I2) (turn_zipT a b _ _ _ _ _ (zap a b _ la lb).1 (zap a b _ la lb).2.1 (zap a b _ la lb).2.2) (⟨hz,hTI,⟨_,_,hTO⟩,hi1,hi2⟩) (fun c hb=>?_) (q)
      · have hb':s1.heap.objs.size ≤ c:=by
          simp only [List.mem_cons,List.not_mem_nil,or_false] at hb
          rcases hb with rfl | rfl | rfl | rfl | rfl <;> (clear lb la hz'; omega)
        exact I1.fpOk hb' (I1.hok.fresh hb')
variable [Reg]
theorem good_zipT {K:PySem.W.Frag} {G:Hp} {a b:Addr} {xs ys:List V} {ds es:List PyData} (q:SqL K G a xs) (r:DenL K G xs ds) (q':SqT K G b ys) (r':DenL K G ys es):GoodIt K (ItzT K a b) G (zipL ds es) where
  go:=fun H2 i s h=>by
    have hh:i < min ds.length es.length:=by simpa [zipL] using h
    have hl:i < xs.length:=by rw [r.length]; (clear h; omega)
    have hl':i < ys.length:=by rw [r'.length]; (clear hl h; omega)
    exact L2.i_EEEEAAA (xs) (ys) (xs[i]) (ys[i]) (s.seq q) (s.tup q') (by simp [hl]) (by simp [hl'])
  yld:=fun H2 i x H3 d s h y=>by
    refine L2.o_EEAA (zipL_get h) fun e e' h1 h1' zq4=>?_
    subst zq4
    revert y
    refine fun zqq=>L2.o_EEEAAAA zqq fun p v v2 hp zq4 zq5 y y'=>?_
    clear zqq
    subst zq4
    subst zq5
    refine L2.o_EA (r.get h1) fun w h2 h3=>?_
    refine L2.o_EA (r'.get h1') fun w' h2' h3'=>?_
    have z1:=y xs (s.seq q)
    have z2:=y' ys (s.tup q')
    rw [h2] at z1
    rw [h2'] at z2
    obtain rfl:=Option.some.inj z1
    obtain rfl:=Option.some.inj z2
    exact .inr ⟨p,_,_,hp,rfl,rfl,rfl,.cons h3 (.cons h3' .nil)⟩
  stop:=fun H2 s=>⟨xs,ys,s.seq q,s.tup q',by
    have:=r.length
    have:=r'.length
    simp [zipL]
    omega⟩
theorem iv_zipT {X:Cx} {O:Ow} {es:List Expr} {x1} {tpos p pos:Pos} {a b:Expr} {f g:Rho → Option PyData} (hg:Gl X "zip") (hm:X.mg "zip" = none) (ha:PV X O a f) (hb:PV X O b g) (hs1:autoParam (starEach (a :: [b]) X.env = (false,eval a X.env) :: starEach [b] X.env) L2.ar._auto_1) (hs2:autoParam (starEach (b :: []) X.env = (false,eval b X.env) :: starEach [] X.env) L2.ar._auto_1) (hs:autoParam (starEach [a,b] X.env = [(false,eval a X.env),(false,eval b X.env)]) L2.ar._auto_1) (hs3:autoParam (starEach [b] X.env = [(false,eval b X.env)]) L2.ar._auto_1) :
    PIv X O (.Tuple es x1 tpos) (.Call (.Name "zip" p) [a,b] [] pos) (fun ρ=>zipO ((f ρ).bind listD) ((g ρ).bind tupD)):=(pi_zipT hg hm (ac_cons ha (ac_cons hb ac_nil hs2) hs1) hs hs3).imp fun σ H R zpat=>by
  obtain ⟨hid,H0,ρ,ow,ds,E,hf,k⟩:=zpat
  obtain ⟨d1,g1,g2⟩:=bind_some hf
  obtain ⟨d2,g3,rfl⟩:=map_some g2
  obtain ⟨e1,h1,h2⟩:=bind_some g1
  obtain ⟨e2,h3,h4⟩:=bind_some g3
  rw [listD_some h2] at h1
  rw [tupD_some h4] at h3
  refine ⟨hid,H0,ρ,ow,_,E,(by rw [h1,h3]; rfl:consD (f ρ) (consD (g ρ) (some [])) = some [.list d1,.tuple d2]),fun vs H' s D=>?_⟩
  cases D with
  | cons D1 D=>
    cases D with
    | cons D2 D=>
      cases D
      obtain ⟨a,xs,rfl,q,r⟩:=den_lst D1
      obtain ⟨b,ys,rfl,q',r'⟩:=den_tup D2
      exact L2.i_EEAAA (a) (b) (rfl) (⟨xs,(del_same _ _).seq q⟩) (⟨ys,(del_same _ _).tup q'⟩) (k _ H' s (good_zipT q r q' r'))
end L2
namespace L2
open PySem PySem.Spec PyProof.Rows
theorem cells_none:∀ (names:List (Str × NameKind)) (n:Nat) (acc:List (Str × Addr)) (h:Heap),(names.filter fun y=>y.2 == .cell) = [] → cellsFrom n names acc = acc ∧ pushCells h names = h
  | [],_,_,_,_=>⟨rfl,rfl⟩
  | (x,k) :: r,n,acc,h,e=>by
    cases hk:(k == NameKind.cell) with
    | true=>rw [List.filter_cons_of_pos (by simpa using hk)] at e; cases e
    | false=>
      rw [List.filter_cons_of_neg (by simp [hk])] at e
      unfold cellsFrom pushCells
      rw [if_neg (by simp [hk]),if_neg (by simp [hk])]
      exact cells_none r n acc h e
theorem cells_one {x0:Str}:∀ (names:List (Str × NameKind)) (n:Nat) (acc:List (Str × Addr)) (h:Heap),(names.filter fun y=>y.2 == .cell) = [(x0,.cell)] → cellsFrom n names acc = (x0,n) :: acc ∧ pushCells h names = h.push { cls:=.type "cell",data:=.cell none }
  | [],_,_,_,e=>by cases e
  | (x,k) :: r,n,acc,h,e=>by
    cases hk:(k == NameKind.cell) with
    | true=>
      rw [List.filter_cons_of_pos (by simpa using hk)] at e
      injection e with e1 e2
      injection e1 with e1 e3
      unfold cellsFrom pushCells
      rw [if_pos hk,if_pos hk,e1]
      exact cells_none r _ _ _ e2
    | false=>
      rw [List.filter_cons_of_neg (by simp [hk])] at e
      unfold cellsFrom pushCells
      rw [if_neg (by simp [hk]),if_neg (by simp [hk])]
      exact cells_one r n acc h e
theorem newEnvC {M:Model} {A:Around} {E:Value → Shared → Prop} {s:Shared} {scope:Scope} {g b:Addr} {cl:List (Str × Addr)} {qual x0:Str} {env:Env} {Q:Env → Shared → Prop} (h1:(scope.names.filter fun y=>y.2 == .cell) = [(x0,.cell)])
    (hQ:Q (newEnv scope s.heap.objs.size g ((x0,s.heap.objs.size + 1) :: cl) qual none .none (some env) b) { s with heap:=(s.heap.push { cls:=.type "dict",data:=.dict #[] }).push { cls:=.type "cell",data:=.cell none } }) :
    wpAny M A (newFunctionEnv scope g cl [] qual none .none (some env) b) Q E s:=by
  simp only [newFunctionEnv,Option.isSome_some,if_true]
  refine wpAny_bind (wpAny_alloc ?_)
  refine wpAny_bind (wpAny_layCells _ (fun name kind cells=>by cases hkc:kind == NameKind.cell <;> simp [hkc]) _ _ _ _ ?_)
  rw [(cells_one _ _ _ s.heap h1).1,(cells_one scope.names 0 [] _ h1).2,show ({ s with heap:=s.heap.push { cls:=.type "dict",data:=.dict #[] } }:Shared).heap.objs.size = s.heap.objs.size + 1 from Heap.size_push ..]
  exact wpAny_bind (wpAny_pure (wpAny_pure hQ))
structure CompScC (sc:Scope) (XN:List Str) (scope:Scope) (k:Nat) (N:List Str) (ix:List Nat) (x0:Str):Prop where
  kind:scope.kind = .function
  okind:sc.kind = .function
  onec:(scope.names.filter fun y=>y.2 == .cell) = [(x0,.cell)]
  x0c:scope.names.lookup x0 = some .cell
  loc:∀ y ∈ scope.names,y.2 = .local → scope.names.lookup y.1 = some .local
  fr:∀ y ∈ scope.names,y.2 = .free → sc.names.lookup y.1 = some .cell
  sl:ix.map (fun i=>XN[i]?) = (N.drop k).map some
  frl:∀ x ∈ N.drop k,scope.names.lookup x = some .free
  len:N.length = k + ix.length
theorem CompScC.cell1 {sc:Scope} {XN:List Str} {scope:Scope} {k:Nat} {N:List Str} {ix:List Nat} {x0 x:Str} (S:CompScC sc XN scope k N ix x0) (h:(x,NameKind.cell) ∈ scope.names):x = x0:=by
  have:(x,NameKind.cell) ∈ scope.names.filter fun y=>y.2 == .cell:=List.mem_filter.mpr ⟨h,rfl⟩
  rw [S.onec] at this
  injection List.mem_singleton.mp this
noncomputable def cxCompC (X:Cx) (N:List Str) (scope:Scope) (x0:Str) (cl:List (Str × Addr)) (C:Addr) (s3:Shared) (H3:Hp) (fp:List Addr) (pins:List (Addr × Obj)):Cx:=
  { X with N:=N,s₀:=s3,H₀:=H3,env:=compEnvC scope cl C X.env,outer:=X.stack,stack:=X.stack,ex:=fp,fn:=fun y=>y == x0,pn:=X.pn ++ pins }
theorem consL {x0 x:Str} {a c:Addr} {cl:List (Str × Addr)} (h:List.lookup x ((x0,a) :: cl) = some c):(x = x0 ∧ c = a) ∨ (x ≠ x0 ∧ cl.lookup x = some c):=by
  rw [List.lookup_cons] at h
  cases e:(x == x0) with
  | true=>rw [e] at h; exact .inl ⟨eq_of_beq e,(Option.some.inj h).symm⟩
  | false=>rw [e] at h; exact .inr ⟨beq_eq_false_iff_ne.mp e,h⟩
theorem relabel_memC {scope:Scope} {env:Env} {x:Str} {k:NameKind} (h:(relabel scope env).names.lookup x = some k) (hk:k = .cell ∨ k = .free):(x,NameKind.free) ∈ scope.names ∨ (x,NameKind.cell) ∈ scope.names:=by
  obtain ⟨⟨n,k'⟩,hm,e⟩:=List.mem_map.mp (PySem.mem_of_lookup h)
  dsimp only at e
  split at e
  · rename_i hq
    cases e
    have:k' = .free:=by
      have:=(Bool.and_eq_true_iff.mp (Bool.and_eq_true_iff.mp hq).1).1
      simpa using this
    subst this
    exact .inl hm
  · cases e
    rcases hk with rfl | rfl
    · exact .inr hm
    · exact .inl hm
section
variable {X:Cx} {pins:List (Addr × Obj)} {σ:St} {H:Hp} {s:Shared} {scope:Scope} {k:Nat} {N:List Str} {ix:List Nat} {sc:Scope} {fp:List Addr} {x0:Str}
theorem comp_cellsC (I:Inv X pins σ H s) (hsc:X.env.scope = sc) (S:CompScC sc X.N scope k N ix x0):∀ x ∈ scope.names,x.2 = .free → ∃ c,X.env.cells.lookup x.1 = some c:=fun x hx hf=>
  I.ok.has x.1 (.inl (by show X.env.scope.names.lookup x.1 = _; rw [hsc]; exact S.fr x hx hf))
theorem clo_lt (I:Inv X pins σ H s) (hcl:∀ x ∈ scope.names,x.2 = .free → ∃ c,X.env.cells.lookup x.1 = some c):∀ x c,(cloOf scope X.env).lookup x = some c → c < s.heap.objs.size:=fun x c e=>by
  refine L2.o_E (I.cell x c (clo_in hcl e)) fun v z=>?_
  exact z.lt
theorem comp_okC (I:Inv X pins σ H s) (hsc:X.env.scope = sc) (S:CompScC sc X.N scope k N ix x0) (hf:∀ b ∈ fp,FpOk X pins H b) (hlt:∀ b ∈ fp,b < s.heap.objs.size) :
    (cxCompC X N scope x0 ((x0,s.heap.objs.size + 1) :: cloOf scope X.env) s.heap.objs.size s H fp pins).Ok:=by
  have hcl:=comp_cellsC I hsc S
  have old:=clo_lt I hcl
  refine ⟨I.ok.mod,S.kind,I.ok.glob,I.ok.blt,Nat.le_refl _,fun x y c h1 h2=>?_,fun x hx=>?_,fun x c h1 h2=>?_,I.ok.hd,I.ok.frames,.inl rfl,fun b hb=>⟨Nat.ne_of_lt (hlt b hb),fun x c e=>?_⟩,
    I.bs,Nat.le_trans I.ok.bsz I.sz,fun b o e hb=>?_,fun b hb=>fp_stk I (hf b hb).2.1 (hf b hb).2.2.1,I.stack,I.stkFree,fun x c p h1 h2=>let z:=I.ok.tabs x c p h1 h2; ⟨I.base.tabs p z.1,z.2⟩⟩
  · rcases consL h1 with ⟨e1,f1⟩ | ⟨e1,f1⟩
    · rcases consL h2 with ⟨e2,f2⟩ | ⟨e2,f2⟩
      · rw [e1,e2]
      · have:=old y c f2
        rw [f1] at this
        exact absurd this (Nat.not_lt.mpr (Nat.le_succ _))
    · rcases consL h2 with ⟨e2,f2⟩ | ⟨e2,f2⟩
      · have:=old x c f1
        rw [f2] at this
        exact absurd this (Nat.not_lt.mpr (Nat.le_succ _))
      · exact I.ok.inj x y c (clo_in hcl f1) (clo_in hcl f2)
  · have hx':(x,NameKind.free) ∈ scope.names ∨ (x,NameKind.cell) ∈ scope.names:=by
      rcases hx with hx | hx
      · exact relabel_memC hx (.inl rfl)
      · exact relabel_memC hx (.inr rfl)
    by_cases e:x = x0
    · exact ⟨_,by rw [e]; exact List.lookup_cons_self⟩
    · rcases hx' with z | z
      · refine L2.o_E (clo_has (env:=X.env) z) fun c hc=>?_
        exact ⟨c,by
          show List.lookup x ((x0,_) :: _) = _
          rw [List.lookup_cons,show (x == x0) = false from beq_eq_false_iff_ne.mpr e]; exact hc⟩
      · exact absurd (S.cell1 z) e
  · rcases consL h2 with ⟨e2,f2⟩ | ⟨e2,f2⟩
    · rw [f2]; exact Nat.le_succ _
    · exact absurd (eq_of_beq h1) e2
  · rcases consL e with ⟨e2,f2⟩ | ⟨e2,f2⟩
    · rw [f2]; exact Nat.ne_of_gt (Nat.lt_succ_of_lt (hlt b hb))
    · exact (hf b hb).2.2.2.2.1 x c (clo_in hcl f2)
  · rcases (hf b hb).2.2.2.1 with z | z
    · exact I.ok.noex b o e z
    · exact absurd (Nat.lt_of_lt_of_le (Heap.lt_size (I.ok.bs b o e).1) z) (Nat.lt_irrefl _)
theorem comp_startC (I:Inv X pins σ H s) (hsc:X.env.scope = sc) (S:CompScC sc X.N scope k N ix x0) (hf:∀ b ∈ fp,FpOk X pins H b) (hlt:∀ b ∈ fp,b < s.heap.objs.size) {h':Heap} {t:Nat} {m:Str → Option Value}
    (hns:h'.Ns s.heap.objs.size m) (hc0:h'.IsCell (s.heap.objs.size + 1) none) (hk:∀ b o,s.heap.get? b = some o → h'.get? b = some o) :
    Inv (cxCompC X N scope x0 ((x0,s.heap.objs.size + 1) :: cloOf scope X.env) s.heap.objs.size s H fp pins) [] (stComp k ix σ) H { s with heap:=h',toks:=t }:=by
  have hcl:=comp_cellsC I hsc S
  have hkind:X.env.scope.kind = .function:=by rw [hsc]; exact S.okind
  have cellK:∀ c v,s.heap.IsCell c v → h'.IsCell c v:=fun c v ⟨o,e,d⟩=>⟨o,hk c o e,d⟩
  refine ⟨comp_okC I hsc S hf hlt,rfl,I.bare,Un.kept hk,⟨m,hns,fun i x v e1 e2 e3=>?_⟩,fun x c e=>?_,I.hok.fresh (Nat.le_refl _),fun x c e=>?_,fun p hp=>?_,I.hok.kept hk,?_⟩
  · unfold stComp at e2
    by_cases hi:i < k
    · rw [List.getElem?_append_left (by simpa using hi),List.getElem?_replicate,if_pos hi] at e2
      cases e2
    · have hj:k ≤ i:=Nat.le_of_not_lt hi
      rw [List.getElem?_append_right (by simpa using hj),List.getElem?_map] at e2
      simp only [List.length_replicate] at e2
      cases hix:ix[i - k]? with
      | none=>rw [hix] at e2; cases e2
      | some j=>
        rw [hix] at e2
        have e2':(σ[j]?).getD none = some v:=Option.some.inj e2
        have hσ:σ[j]? = some (some v):=by
          cases q:σ[j]? with
          | none=>rw [q] at e2'; cases e2'
          | some w=>rw [q] at e2'; exact congrArg some e2'
        have hd:(N.drop k)[i - k]? = some x:=by
          rw [List.getElem?_drop]
          have:k + (i - k) = i:=by (clear hσ e2' hix e2 hj e1 hlt; omega)
          rw [this]
          exact e1
        have hXN:X.N[j]? = some x:=by
          have q:=congrArg (fun l=>l[i - k]?) S.sl
          simp only [List.getElem?_map,hix,hd,Option.map_some] at q
          exact Option.some.inj q
        have hfree:=S.frl x (List.mem_of_getElem? hd)
        have hmem:=PySem.mem_of_lookup hfree
        have hout:X.env.kindOf x = some .cell:=by
          show X.env.scope.names.lookup x = _
          rw [hsc]
          exact S.fr _ hmem rfl
        refine L2.o_EA (I.loc) fun m0 hn0 hl0=>?_
        refine L2.o_EA (hl0 j x v hXN hσ (.inr (.inl hout))) fun u r l=>?_
        refine ⟨u,r,.inr ⟨.inl (relabel_free hkind hout hfree),?_⟩⟩
        rcases l with ⟨q,_⟩ | ⟨_,c,hc,z⟩
        · rw [hout] at q; cases q
        · refine L2.o_E (clo_has (env:=X.env) hmem) fun c' hc'=>?_
          have e':=clo_in hcl hc'
          rw [hc] at e'
          obtain rfl:=Option.some.inj e'
          have hne:x ≠ x0:=fun z=>by
            rw [z,S.x0c] at hfree
            cases hfree
          exact ⟨c,by
            show List.lookup x ((x0,_) :: _) = _
            rw [List.lookup_cons,show (x == x0) = false from beq_eq_false_iff_ne.mpr hne]; exact hc',cellK c _ z⟩
  · rcases consL e with ⟨e2,f2⟩ | ⟨e2,f2⟩
    · rw [f2]; exact ⟨none,hc0⟩
    · refine L2.o_E (I.cell x c (clo_in hcl f2)) fun v z=>?_
      exact ⟨v,cellK c v z⟩
  · rcases consL e with ⟨e2,f2⟩ | ⟨e2,f2⟩
    · rw [f2]; exact .inl (I.hok.fresh (Nat.le_succ _))
    · exact (I.freeC x c (clo_in hcl f2)).imp id fun z=>⟨beq_eq_false_iff_ne.mpr e2,z.2⟩
  · have hp':p ∈ X.pn ++ pins:=by simpa [cxCompC] using hp
    refine L2.o_AAAA (I.pin p hp') fun e n ne nf d=>?_
    exact ⟨hk _ _ e,n,Nat.ne_of_lt (Heap.lt_size e),fp_stk I ne nf,d⟩
  · unfold stComp
    show _ = N.length
    rw [S.len,List.length_append,List.length_replicate,List.length_map]
theorem comp_afterC {σ':St} {H':Hp} {s':Shared} {h':Heap} {scope:Scope} {cl:List (Str × Addr)} (I:Inv X pins σ H s) (hf:∀ b ∈ fp,FpOk X pins H b)
    (J:Inv (cxCompC X N scope x0 cl s.heap.objs.size s H fp pins) [] σ' H' s') (hs:Heap.SameBut s.heap.objs.size s'.heap h'):Inv X pins σ H' { s' with heap:=h' }:=by
  have un:Un (frs X.stack) fp H H' s.heap s'.heap:=J.base
  have fr:H' s.heap.objs.size = none:=J.free
  refine I.call' (s':={ s' with heap:=h' }) (ch:=fp) J.os (un.other fun b hb=>hs.2 b (Nat.ne_of_lt hb)) (fun b o e=>?_) J.bare fun b hb=>⟨(hf b hb).2.2.2.1,(hf b hb).2.1,(hf b hb).2.2.2.2.1,(hf b hb).2.2.2.2.2⟩
  refine (J.hok b o e).stay (fun c u hc q=>(hs.2 c ?_).trans q) (fun _ q=>q) fun _ _ q=>q
  rcases hc with hc | hc
  · rw [hc]; exact ne_of_none e fr
  · exact ne_of_none hc fr
end
theorem comp_genC {X:Cx} {elt tg iter:Expr} {ifs:List Expr} {scope:Scope} {pos cpos:Pos} {wi:TI} {g:TG} {tc:TT} {te:TE} {k:Nat} {N:List Str} {ix:List Nat} (sc:Scope) (hsc:X.env.scope = sc) {x0:Str} (S:CompScC sc X.N scope k N ix x0)
    (hx:X.xe = fun _ _=>False) (hc:X.calm = true) (hi:PI X tg iter wi)
    (hg:∀ cl C s3 H3 fp pins,PG (cxCompC X N scope x0 cl C s3 H3 fp pins) tg g) (ht:∀ cl C s3 H3 fp pins,PIf (cxCompC X N scope x0 cl C s3 H3 fp pins) ifs tc) (he:∀ cl C s3 H3 fp pins,PE (cxCompC X N scope x0 cl C s3 H3 fp pins) elt te)
    {use:Option (Value → Sem Unit)} {QQ:Value → Shared → Prop} (pins:List (Addr × Obj)) (s:Shared) (σ:St) (H:Hp) (Q:VK) (I:Inv X pins σ H s) (h:tComp wi g tc te (stComp k ix) σ H Q)
    (hend:∀ (D C:Addr) (H5:Hp) (s6:Shared),(∀ h',Heap.SameBut C s6.heap h' → Inv X pins σ H5 { s6 with heap:=h' }) → (∃ m6,s6.heap.Ns C m6) → FpOk X pins H5 C → Q (.ref D) H5 → compPost (model X.prog X.w) X.A X.xe use QQ (.ref D) C (.ok .next) s6)
    (hs:∀ x,foldedSetIterable iter X.env x = pure x:=by intro _; rfl):wpAny (model X.prog X.w) X.A (comprehension (.ListComp elt [⟨tg,iter,ifs,0⟩] scope pos) scope X.env cpos (newList []) false (eval iter X.env) use) QQ X.xe s:=by
  refine wpAny_comprehension_free (use:=use) rfl hs (closure_is (comp_cellsC I hsc S)) S.kind S.loc (thn (hi pins s σ H _ I h) fun v s1 h1=>thn h1 fun itv s2 h2=>?_)
  refine L2.o_EEEEEAAAAA (h2) fun it fp tn J H2 e I2 T st2 f2 q2=>?_
  subst e
  refine wpAny_newObj_type ?_ (by show 0 ≤ sizeLine; exact Nat.zero_le _)
  have hDn:H2 s2.heap.objs.size = none:=I2.hok.fresh (Nat.le_refl _)
  obtain ⟨W,⟨m0,w0⟩,turn⟩:=q2 s2.heap.objs.size hDn
  have kp3:∀ b o,s2.heap.get? b = some o → (s2.heap.push { cls:=.type "list",data:=.seq ([]:List Value).toArray }).get? b = some o:=fun b o q=>Heap.get?_push_of_some _ q
  have I3:Inv X pins σ (upd H2 s2.heap.objs.size (.lst [])) { s2 with heap:=s2.heap.push { cls:=.type "list",data:=.seq ([]:List Value).toArray } }:=
    I2.laid (t':=s2.toks) kp3 (Nat.le_refl _) ⟨Nat.zero_le _,[],0,.nil,Heap.get?_push_size _ rfl⟩
  have hlt2:∀ b ∈ fp,b < s2.heap.objs.size:=fun b hb=>by obtain ⟨o,q,_⟩:=T.obj _ _ st2 b hb; exact Heap.lt_size q
  have f3:∀ b ∈ fp,FpOk X pins (upd H2 s2.heap.objs.size (.lst [])) b:=fun b hb=>⟨by rw [upd_ne (Nat.ne_of_lt (hlt2 b hb))]; exact (f2 b hb).1,(f2 b hb).2⟩
  generalize hs3:({ s2 with heap:=s2.heap.push { cls:=.type "list",data:=.seq ([]:List Value).toArray } }:Shared) = s3 at I3
  have st3:tn 0 s3.heap:=by rw [← hs3]; exact T.keep _ _ _ st2 fun b hb o q=>kp3 b o q
  have hlt3:∀ b ∈ fp,b < s3.heap.objs.size:=fun b hb=>by obtain ⟨o,q,_⟩:=T.obj _ _ st3 b hb; exact Heap.lt_size q
  generalize s2.heap.objs.size = D at w0 turn I3 f3 hDn
  generalize upd H2 D (.lst []) = H3 at w0 I3 f3
  refine newEnvC S.onec ?_
  generalize hh4:(s3.heap.push { cls:=.type "dict",data:=.dict #[] }).push { cls:=.type "cell",data:=.cell none } = h4
  have kp4:∀ b o,s3.heap.get? b = some o → h4.get? b = some o:=fun b o q=>by rw [← hh4]; exact Heap.get?_push_of_some _ (Heap.get?_push_of_some _ q)
  have hns:h4.Ns s3.heap.objs.size (fun _=>none):=by rw [← hh4]; exact (Heap.Ns.new s3.heap (.type "dict")).keeps fun b o q=>Heap.get?_push_of_some _ q
  have hc0:h4.IsCell (s3.heap.objs.size + 1) none:=by
    have q:=Heap.get?_push_size (s3.heap.push { cls:=.type "dict",data:=.dict #[] }) (o:={ cls:=.type "cell",data:=.cell none }) rfl
    rw [Heap.size_push,hh4] at q
    exact ⟨_,q,rfl⟩
  have I4:=comp_startC (t:=s3.toks) I3 hsc S f3 hlt3 hns hc0 kp4
  have st4:tn 0 h4:=T.keep _ _ _ st3 fun b hb o q=>kp4 b o q
  have loop:∀ s4:Shared,s4 = { s3 with heap:=h4 } →
      codeAny (model X.prog X.w) X.A (.compLoop (.ListComp elt [⟨tg,iter,ifs,0⟩] scope pos) 0 (.ref it) (.ref D) (compEnvC scope (((x0,s3.heap.objs.size + 1) :: cloOf scope X.env)) s3.heap.objs.size X.env))
        (compPost (model X.prog X.w) X.A X.xe use QQ (.ref D) s3.heap.objs.size) s4:=by
    rintro s4 rfl
    have fok:∀ {H':Hp},(∀ b ∈ fp,H' b = none) → ∀ b ∈ fp,FpOk (cxCompC X N scope x0 (((x0,s3.heap.objs.size + 1) :: cloOf scope X.env)) s3.heap.objs.size s3 H3 fp pins) [] H' b:=fun {H'} hn b hb=>
      ⟨hn b hb,Nat.ne_of_lt (hlt3 b hb),fp_stk I3 (f3 b hb).2.1 (f3 b hb).2.2.1,.inl hb,fun x c e=>(consL e).elim (fun z=>by rw [z.2]; exact Nat.ne_of_gt (Nat.lt_succ_of_lt (hlt3 b hb))) fun z=>(f3 b hb).2.2.2.2.1 x c (clo_in (comp_cellsC I3 hsc S) z.2),fun p hp=>(f3 b hb).2.2.2.2.2 p (by simpa [cxCompC] using hp)⟩
    exact comp_run (Y:=cxCompC X N scope x0 (((x0,s3.heap.objs.size + 1) :: cloOf scope X.env)) s3.heap.objs.size s3 H3 fp pins) hx hc (hg _ _ _ _ _ _) (ht _ _ _ _ _ _) (he _ _ _ _ _ _) T fok turn (fun τ H5 s6 I6 qn=>by
      refine L2.o_EA (I6.loc) fun m6 hn6 _=>?_
      exact hend D _ H5 s6 (fun h' hs'=>comp_afterC I3 f3 I6 hs') ⟨m6,hn6⟩ (I3.fpOk (Nat.le_refl _) I6.free) qn) I4 st4 (fun b hb=>(f3 b hb).1) w0
  subst hs3
  exact codeAny_compStart_list (loop _ rfl) (T.self _ 0 _ _ _ st4 (loop _ rfl))
theorem pe_compC {X:Cx} {elt tg iter:Expr} {ifs:List Expr} {scope:Scope} {pos:Pos} {wi:TI} {g:TG} {tc:TT} {te:TE} {k:Nat} {N:List Str} {ix:List Nat} (sc:Scope) (hsc:X.env.scope = sc) {x0:Str} (S:CompScC sc X.N scope k N ix x0)
    (hx:X.xe = fun _ _=>False) (hc:X.calm = true) (hi:PI X tg iter wi)
    (hg:∀ cl C s3 H3 fp pins,PG (cxCompC X N scope x0 cl C s3 H3 fp pins) tg g) (ht:∀ cl C s3 H3 fp pins,PIf (cxCompC X N scope x0 cl C s3 H3 fp pins) ifs tc) (he:∀ cl C s3 H3 fp pins,PE (cxCompC X N scope x0 cl C s3 H3 fp pins) elt te)
    (hs:∀ x,foldedSetIterable iter X.env x = pure x:=by intro _; rfl):PE X (.ListComp elt [⟨tg,iter,ifs,0⟩] scope pos) (tComp wi g tc te (stComp k ix)):=by
  intro pins s σ H Q I h
  rw [eval_ListComp]
  show wpAny _ X.A (comprehension (.ListComp elt [⟨tg,iter,ifs,0⟩] scope pos) scope X.env _ (newList []) false (eval iter X.env) none) _ _ s
  refine comp_genC sc hsc S hx hc hi hg ht he (use:=none) (QQ:=EP X pins σ Q) pins s σ H Q I h (fun D C H5 s6 hI hm hf q=>?_) hs
  refine L2.o_E (hm) fun m6 hn6=>?_
  exact ⟨m6,hn6,fun h' hs'=>⟨.ref D,H5,hI h' hs',rfl,q⟩⟩
variable [Reg]
theorem fr_compC {X:Cx} {O:Ow} {elt tg iter:Expr} {ifs:List Expr} {scope:Scope} {pos:Pos} {fi:Rho → Option (List PyData)} {S:PyData → Rho → Option Rho} {ft:Rho → Option Bool} {fe:Rho → Option PyData} {k:Nat} {N:List Str} {ix:List Nat} {x0:Str} (sc:Scope) (hsc:X.env.scope = sc) (C:CompScC sc X.N scope k N ix x0)
    (hx:X.xe = fun _ _=>False) (hc:X.calm = true) (hi:PIr X O tg iter fi)
    (hg:∀ cl C s3 H3 fp pins,PGv (cxCompC X N scope x0 cl C s3 H3 fp pins) O0 tg S) (ht:∀ cl C s3 H3 fp pins,PIfv (cxCompC X N scope x0 cl C s3 H3 fp pins) ifs ft) (he:∀ cl C s3 H3 fp pins,PR (cxCompC X N scope x0 cl C s3 H3 fp pins) O0 elt fe)
    (hs:∀ x,foldedSetIterable iter X.env x = pure x:=by intro _; rfl) :
    PFr X O (.ListComp elt [⟨tg,iter,ifs,0⟩] scope pos) (fun ρ=>compO S ft fe (fi ρ) (frees k ix ρ)):=by
  exact (pe_compC (g:=tG X.K O0 S) (tc:=tT X.K O0 ft) (te:=tR X.K O0 fe) sc hsc C hx hc hi hg ht he hs).imp comp_imp
end L2
namespace L2
open PySem PySem.Spec PyProof.Rows
variable [Reg]
section
variable {P:Program} {w:World} {K:PySem.W.Frag} {h:Heap} {mg:Str → Option Value} {base:Heap} {x:Str} {st:Stmt} {k j:Nat} {ps:List Str} {T:Ty}
theorem FnAt.okI {F:List PyData → Option (PyData × List PyData)} (d:FnAt K x st) (X:K.In h) (G:h.Ns mainGlobals mg)
    (hb:∀ (kV doc pm:Value) (an:Option Addr) (cdv ct:Value) (us:List Value),us.length = ps.length → bindArgs (PySem.W.fnOf x x (defArgs st) (defBody st) (defScope st) .none kV doc pm an cdv ct) ⟨us,[]⟩ = pure (ps.zip us))
    (ok:∀ f fd,PySem.W.nsIn K mainGlobals x = some (some (.ref f)) → Fun K x x st f fd → FnOk P w K mg base CX0 k f fd ps (spIO K j T F)):DefI P w K mg base k x ps j T F:=by
  cases d with
  | mk f fd a D=>exact ⟨f,fd,ok f fd a D,PySem.W.mg_of X G a,D.kp,D.binds hb,a⟩
end
end L2
namespace L2
open PySem PySem.Spec PyProof.Rows
variable [Reg]
section
variable {X:Cx} {O:Ow} {b:Expr} {es:List Expr} {pos p:Pos} {k:Nat} {ps:List Str} {x:Str} {T:Ty}
noncomputable def callIr (i:Nat) (F:List PyData → Option (PyData × List PyData)) (fs:Rho → Option (List PyData)) (ρ:Rho):Option (PyData × Rho):=(fs ρ).bind fun ds=>((ρ[i]?).join.bind listD).bind fun xs=>(F (.list xs :: ds)).map fun z=>(z.1,ρ.set i (some (.list z.2)))
theorem x_callIr {i:Nat} {fs:Rho → Option (List PyData)} {F:List PyData → Option (PyData × List PyData)} (G:DefI X.prog X.w X.K X.mg X.base k x ps 0 T F) (hr:Room k X.A) (hg:Gl X x) (hb:PE X b (tVar i)) (hes:PAv X O es fs) (hO:autoParam (O.s.lookup i = some (.lst .cl)) L2.ar._auto_1) (hdb:autoParam ((x == ("__debug__":Str)) = false) L2.ad._auto_1) (he:autoParam (starEach (b :: es) X.env = (false,eval b X.env) :: starEach es X.env) L2.ar._auto_1) (hpl:autoParam ((backTo pos (starEach es X.env)).any (·.1) = false) L2.ar._auto_1) :
    PX X O (.Call (.Name x p) (b :: es) [] pos) (callIr i F fs):=by
  obtain ⟨f,fd,g1,g2,g3,g4,_⟩:=G
  exact (pe_call g1 hr hg g2 g3 g4 .nil pass0 (pa_cons hb hes he) hdb he hpl).imp fun σ H Q zpat=>by
    obtain ⟨hid,H0,ρ,ow,r,E,hf,k⟩:=zpat
    obtain ⟨ds,e1,hf⟩:=bind_some hf
    obtain ⟨xs,e2,hf⟩:=bind_some hf
    obtain ⟨z,e3,rfl⟩:=map_some hf
    obtain ⟨dl,e4,e5⟩:=bind_some e2
    rw [listD_some e5] at e4
    obtain ⟨l,h1,_⟩:=E.lend hO (join_some e4)
    refine ⟨.ref l,h1,hid,H0,ρ,ow,ds,E,e1,fun us H1 s1 D1=>?_⟩
    obtain ⟨l',h1',h2⟩:=(E.mono s1).lend hO (join_some e4)
    rw [h1] at h1'
    cases h1'
    rw [List.append_nil]
    refine h2 0 _ (.list xs :: ds) T F z Q rfl (by rw [List.length_cons,List.length_cons,D1.length]) rfl (fun m w dd hm hv hd=>?_) e3 fun v' H' E' s' D'=>k v' H' E' ((del_mono s1 _).trans s') D'
    cases m with
    | zero=>exact absurd rfl hm
    | succ m=>
      obtain ⟨w',q1,q2⟩:=D1.get (by simpa using hd)
      rw [List.getElem?_cons_succ] at hv
      rw [q1] at hv
      obtain rfl:=Option.some.inj hv
      exact q2
end
end L2
namespace L2
open PySem PySem.Spec PyProof.Rows
section
variable {P:Program} {w:World} {A:Around} {E:Value → Shared → Prop} {h:Heap} {g:Array GenState} {d:Drawn} {t:Nat} {os:OsState}
variable {C N:Addr} {nm q:Str} {bs bm bmB:List Value} {hdct:Bool} {sn:List Str} {sub:List Value} {ab:Bool} {col:Option Bool} {dd:Option Addr} {k0 k1 k2 k3 k5:Option Value} {B Bn newId nid initId inN:String} {bmN:List Value}
theorem typeCall_own (Fn:ExcBaseFacts Bn newId inN bmN) (hBn:bmB.contains (.type Bn) = true) (F:ExcBaseFacts B nid initId bmB) (T:OwnTail h bmB bm) {mN:Str → Option Value} {rest:List Value} {fI:Addr} {oI:Obj} {Q:Fin → Shared → Prop}
    (hCl:h.get? C = some (excClassObj nm q C N bs bm hdct sn sub ab col dd k0 k1 k2 k3 k5 newId)) (hn:h.Ns N mN) (hi:mN "__init__" = some (.ref fI)) (hfI:h.get? fI = some oI) (hfc:oI.cls = .type "function")
    (hq:∀ h' e,Heap.MadeExcOf h h' e (.ref C) rest → h.objs.size ≤ e → wpAny (model P w) A (call (.ref fI) (.ref e :: rest)) (fun r s'=>r = .none ∧ Q (.done (.ret (.ref e))) s') E ⟨h',g,d,t,os⟩) (hrest:rest.length ≤ sizeLine) :
    wpAny (model P w) A (Builtin.«type.__call__» ⟨.ref C :: rest,[]⟩) Q E ⟨h,g,d,t,os⟩:=by
  repeat (first | with_reducible refine wpAny_loadPart_at hCl ?_ | with_reducible refine wpAny_madeBy_exc hCl ?_ | wp_step)
  refine codeAny_call_builtin_code (Code.quiet_builtin _ Fn.quiet) (wpAny_check_new_subU Fn hBn T hCl (codeAny_exc_new_subU Fn hBn F T hCl ?_ hrest))
  show wpAny _ _ _ _ _ _
  generalize e2:(h.push { cls:=.type "tuple",data:=.seq rest.toArray }).push { cls:=.ref C,data:=.fields #[.ref h.objs.size,.none,.none,.none,.bool false,.none] } = h2
  have up:∀ b o,h.get? b = some o → h2.get? b = some o:=fun b o e=>by rw [← e2]; exact Heap.get?_push_of_some _ (Heap.get?_push_of_some _ e)
  have hnew:h2.get? (h.objs.size + 1) = some { cls:=.ref C,data:=.fields #[.ref h.objs.size,.none,.none,.none,.bool false,.none] }:=by rw [← e2]; heap_get
  have hself:(Value.ref C :: bm).contains (.ref C) = true:=by simp
  unfold isInstance
  repeat (first | with_reducible refine wpAny_loadPart_at hnew ?_ | (with_reducible refine wpAny_isSubtype_exc (up _ _ hCl) ?_; rw [hself]) | wp_step)
  refine (show wpAny _ _ (typeLookup (.ref C) _) _ _ _ from wpAny_typeLookup_tail (up _ _ hCl) (hn.keeps up) (T.keeps up) F.mroIs F.init.lookup ?_)
  rw [hi]
  refine wpAny_holding (wpAny_bind ?_)
  unfold bindSpecial
  refine wpAny_bind (wpAny_typeOf (T:="function") ⟨_,up _ _ hfI,hfc⟩ ?_)
  rw [if_pos (by decide)]
  refine wpAny_pure (wpAny_bind (wpAny_mono (hq h2 (h.objs.size + 1) ⟨up,Heap.get?_none_of_le (Nat.le_succ _),h.objs.size,hnew,Heap.get?_none_of_le (Nat.le_refl _),?_⟩ (Nat.le_succ _)) (fun r s' hr=>?_) fun _ _ x=>x))
  · rw [← e2]; exact Heap.get?_push_of_some _ (Heap.get?_push_at rfl rfl)
  · revert hr
    refine fun zqq=>L2.o_A zqq fun zq0 hQ=>?_
    clear zqq
    subst zq0
    wp_walk
    exact hQ
theorem call_own (Fn:ExcBaseFacts Bn newId inN bmN) (hBn:bmB.contains (.type Bn) = true) (F:ExcBaseFacts B nid initId bmB) (T:OwnTail h bmB bm) {mN:Str → Option Value} {rest:List Value} {fI:Addr} {oI:Obj} {Q:Value → Shared → Prop}
    (hCl:h.get? C = some (excClassObj nm q C N bs bm hdct sn sub ab col dd k0 k1 k2 k3 k5 newId)) (hn:h.Ns N mN) (hi:mN "__init__" = some (.ref fI)) (hfI:h.get? fI = some oI) (hfc:oI.cls = .type "function")
    (hq:∀ h' e,Heap.MadeExcOf h h' e (.ref C) rest → h.objs.size ≤ e → wpAny (model P w) (A.under (.builtin "type.__call__" ⟨.ref C :: rest,[]⟩)) (call (.ref fI) (.ref e :: rest)) (fun r s'=>r = .none ∧ Q (.ref e) s') E ⟨h',g,d,t,os⟩) (hrest:rest.length ≤ sizeLine) :
    wpAny (model P w) A (call (.ref C) rest) Q E ⟨h,g,d,t,os⟩:=by
  have f1:=tc_lookup
  have f2:=tc_bind (.ref C)
  have hT:(⟨h,g,d,t,os⟩:Shared).TypeIs (.ref C) "type":=⟨_,hCl,rfl⟩
  refine wpAny_call (codeAny_of_tree ?_)
  refine (show wpAny _ _ (callAny (.ref C) _) _ _ _ from ?_)
  repeat (any_goals (first | assumption | with_reducible refine wpAny_loadPart_at hCl ?_ | wp_step))
  exact ⟨rfl,codeAny_call_builtin_at (Code.quiet_builtin _ (by decide +kernel)) entry_typeCall (wpAny_check_type_call_sub hCl (typeCall_own Fn hBn F T hCl hn hi hfI hfc hq hrest))⟩
end
section
variable {P:Program} {w:World} {A:Around} {E:Value → Shared → Prop} {s:Shared}
variable {nm q:Str} {C N e:Addr} {bs bm bmB:List Value} {hdct:Bool} {sn:List Str} {sub:List Value} {ab:Bool} {col:Option Bool} {dd:Option Addr} {k0 k1 k2 k3 k5:Option Value} {B newId nid initId:String}
theorem base_init (F:ExcBaseFacts B nid initId bmB) (T:OwnTail s.heap bmB bm) (hCl:s.heap.get? C = some (excClassObj nm q C N bs bm hdct sn sub ab col dd k0 k1 k2 k3 k5 newId)) {oe:Obj} {vs:Array Value} (he:s.heap.get? e = some oe) (hc:oe.cls = .ref C) (hd:oe.data = .fields vs) (hz:0 < vs.size) {v:Value} {Q:Value → Shared → Prop}
    (hq:∀ h',h'.get? e = some (oe.mapFields (·.setIfInBounds 0 (.ref s.heap.objs.size))) → (∀ b o,b ≠ e → s.heap.get? b = some o → h'.get? b = some o) → Q .none { s with heap:=h' }) :
    wpAny (model P w) A (call (.builtin initId) [.ref e,v]) Q E s:=by
  obtain ⟨hp,g,d,tk,os⟩:=s
  refine wpAny_call (codeAny_call_builtin F.init.plain F.initEntry (wpAny_check_init_subU F T hCl he hc ?_))
  wp_walk
  rw [hd]
  obtain ⟨x,hx⟩:∃ x,vs[0]? = some x:=⟨vs[0],by simp [hz]⟩
  refine wpAny_pure ?_
  rw [hx]
  have he1:(hp.push { cls:=.type "tuple",data:=.seq #[v] }).get? e = some oe:=Heap.get?_push_of_some _ he
  refine wpAny_pure (wpAny_bind (wpAny_setField he1 hd hz ?_))
  have fin:Q .none ⟨(hp.push { cls:=.type "tuple",data:=.seq #[v] }).update e (Obj.mapFields (·.setIfInBounds 0 (.ref hp.objs.size))),g,d,tk,os⟩:=by
    refine hq _ (Heap.get?_update_self _ he1 (Obj.isFreed_of_fields (Obj.data_mapFields hd _))) fun b o hb e'=>?_
    rw [Heap.get?_update_other _ _ (Ne.symm hb)]
    exact Heap.get?_push_of_some _ e'
  cases x <;> first
    | exact wpAny_pure (wpAny_pure fin)
    | exact wpAny_letGo (wpAny_pure fin)
end
end L2
namespace L2
open PySem PySem.Spec PyProof.Rows
noncomputable def onlyVE:List Value → Bool
  | .ref _ :: r=>onlyVE r
  | l=>l == bmVE
theorem onlyVE_bm {l:List Value} (h:onlyVE l = true):∃ rs:List Addr,l = rs.map Value.ref ++ bmVE:=by
  induction l with
  | nil=>exact absurd h (by decide)
  | cons a r ih=>
    cases a with
    | ref c=>
      refine L2.o_E (ih h) fun rs e=>?_
      exact ⟨c :: rs,by rw [e]; rfl⟩
    | _=>exact ⟨[],eq_of_beq h⟩
theorem refuseVE (self:Value):∀ rs:List Addr,refuseLoop self "__setattr__" (rs.map Value.ref ++ bmVE) = pure ()
  | []=>PySem.F.store_ValueError.passes self
  | c :: rs=>by rw [List.map_cons,List.cons_append,refuseLoop_ref]; exact refuseVE self rs
noncomputable def overVE (K:PySem.W.Frag) (C:Addr):Bool:=(PySem.W.clsIn K C).any fun cd=>onlyVE cd.mro && cd.hasDict
section
variable {P:Program} {w:World} {A:Around} {E:Value → Shared → Prop} {s:Shared} {K:PySem.W.Frag} {e C:Addr} {oe:Obj} {vs:Array Value} {name:Str} {v:Value}
theorem set_exc {Q:Unit → Shared → Prop} (X:K.In s.heap) (he:s.heap.get? e = some oe) (hc:oe.cls = .ref C) (hd0:oe.dict = none) (hdat:oe.data = .fields vs)
    (hs:PySem.W.findIn K (.ref C) "__setattr__" = some (some (.builtin "object.__setattr__"))) (hp:overVE K C = true) (hf:PySem.W.findIn K (.ref C) name = some none)
    (hq:∀ h' tk',h'.get? e = some { oe with dict:=some s.heap.objs.size } → h'.Ns1 s.heap.objs.size (fun y=>if y = name then some v else none) → (∀ b o,b ≠ e → s.heap.get? b = some o → h'.get? b = some o) → Q () { s with heap:=h',toks:=tk' }) :
    wpAny (model P w) A (setAttr (.ref e) name v) Q E s:=by
  have I:PySem.W.InstAt s.heap e oe C none:=⟨he,hc,by unfold PySem.W.notCls; rw [hdat],by rw [hd0]; trivial⟩
  refine L2.o_EA (PySem.W.any_some hp) fun cd hcd ho=>?_
  rw [Bool.and_eq_true] at ho
  refine L2.o_E (onlyVE_bm ho.1) fun rs hm=>?_
  have SF:=PySem.F.store_object
  refine PySem.W.set_plain X I hs ?_
  have ne:cd.mro.isEmpty = false:=by rw [hm]; cases rs <;> rfl
  have sub:PySem.W.Looks (model P w) s.heap (isInstance (.ref e) (.type "object")) true:=I.type.andThen (PySem.W.looks_mroIn X (by
    unfold PySem.W.mroIn
    rw [hcd,Option.bind_some,if_neg (by rw [ne]; decide),hm]
    congr 1
    rw [List.contains_eq_any_beq,List.any_append]
    have:bmVE.any (fun x=>Value.type "object" == x) = true:=by decide
    rw [this,Bool.or_true]))
  refine codeAny_call_builtin SF.slot.plain SF.entry (@PySem.W.check_slot (model P w) _ _ { s with toks:=s.toks + 1 } "object.__setattr__" "object" "__setattr__" (.ref e) [.str name s.toks,v] [] _ SF.kind SF.split sub (SF.args (.ref e) (.str name s.toks) v) ?_)
  rw [PySem.W.osa_eq,refuse_eq]
  have hmro:PySem.W.Looks (model P w) s.heap (mroOf (.ref C)) cd.mro:=(PySem.W.looks_clsIn X hcd).andThen .now
  refine wpAny_bind (wpAny_bind (PySem.W.Looks.here (s:={ s with toks:=s.toks + 1 }) I.type (wpAny_bind (PySem.W.Looks.here (s:={ s with toks:=s.toks + 1 }) hmro ?_))))
  rw [hm,refuseVE]
  refine wpAny_pure (wpAny_bind (PySem.W.Looks.here (s:={ s with toks:=s.toks + 1 }) I.type (wpAny_bind (PySem.W.Looks.here (s:={ s with toks:=s.toks + 1 }) (PySem.W.looks_findIn X hf) (wpAny_bind (wpAny_pure ?_))))))
  have hx0:s.heap.get? e = some ⟨.ref C,none,.fields vs,oe.slots⟩:=by
    obtain ⟨oc,od,oda,osl⟩:=oe
    dsimp only at hc hd0 hdat
    subst hc hd0 hdat
    exact he
  refine wpAny_bind (wpAny_pure (wpAny_bind (wpAny_bind (wpAny_loadPart hx0 (wpAny_bind (PySem.W.Looks.here (s:={ s with toks:=s.toks + 1 }) (PySem.W.looks_clsIn X hcd) ?_))))))
  rw [ho.2,if_neg (by decide)]
  dsimp only
  rw [if_neg (by simp [typeHasDict])]
  generalize hn:s.heap.objs.size = n at hq
  have hx1:(s.heap.push { cls:=.type "dict",data:=.dict #[] }).get? e = some ⟨.ref C,none,.fields vs,oe.slots⟩:=Heap.get?_push_of_some _ hx0
  have hne:e ≠ n:=by rw [← hn]; exact Nat.ne_of_lt (Heap.lt_size he)
  refine wpAny_bind (wpAny_alloc' (wpAny_bind (wpAny_update' hx1 (wpAny_pure ?_))))
  have hgd:((s.heap.push { cls:=.type "dict",data:=.dict #[] }).update e fun o=>{ cls:=o.cls,dict:=some s.heap.objs.size,data:=o.data,slots:=o.slots }).get? s.heap.objs.size = some { cls:=.type "dict",data:=.dict #[] }:=
    (Heap.get?_update_ne _ _ _ _ (by rw [hn]; exact hne.symm)).trans (Heap.get?_push_at rfl rfl)
  have hnd:((s.heap.push { cls:=.type "dict",data:=.dict #[] }).update e fun o=>{ cls:=o.cls,dict:=some s.heap.objs.size,data:=o.data,slots:=o.slots }).Ns s.heap.objs.size (fun _=>none):=⟨_,#[],_,hgd,rfl,fun x hx=>absurd hx (by simp),fun _=>rfl⟩
  refine (show wpAny _ _ (Builtin.ObjectAttr.storeInDict s.heap.objs.size (.str name s.toks) name v) _ _ _ from ?_)
  unfold Builtin.ObjectAttr.storeInDict Builtin.ObjectAttr.newKeyGuard
  refine wpAny_bind (wpAny_pure (wpAny_bind (wpAny_nsSet1 (Heap.Ns1.of_empty hnd) fun h' hn' hs'=>?_)))
  refine L2.o_EEEAA (hn'.count (Within.cons name v Within.nil)) fun oX eX pX gX dX cX=>?_
  refine wpAny_bind (wpAny_lookBehind gX (by rw [dX]; exact pastItsLine_dict (Nat.le_trans cX (by rw [List.length_cons,List.length_nil,sizeLine_eq]; (clear cX hn; omega)))) ?_)
  wp_walk
  refine (show Q () { s with heap:=h',toks:=s.toks + 1 + 1 } from hq h' _ ?_ ?_ fun b o hb q=>?_)
  · refine (hs'.2 e (by rw [hn]; exact hne)).trans ((Heap.get?_update_self _ hx1 rfl).trans ?_)
    rw [hn,hc,hdat]
  · rw [← hn]; exact hn'
  · exact (hs'.2 b (Nat.ne_of_lt (Heap.lt_size q))).trans ((Heap.get?_update_ne _ _ _ _ hb).trans (Heap.get?_push_of_some _ q))
end
end L2
namespace L2
open PySem PySem.Spec PyProof.Rows
section
variable {X:Cx} {a b c:Expr} {pos:Pos} {ta tb tc:TE}
noncomputable def tFmt (t:TE):TE:=fun σ H Q=>t σ H fun x H1=>∃ i:Int,x = .int i ∧ i.natAbs.log2 < 1920 ∧ Q (.str (toString i)) H1
theorem pe_fmt (ha:PE X a ta):PE X (.FormattedValue a (-1) none pos) (tFmt ta):=by
  intro pins s σ H Q I h
  refine FormattedValue_plain (thn (ha pins s σ H _ I h) fun v s1 zpat=>?_)
  obtain ⟨x,H1,I1,r1,i,rfl,hd,q⟩:=zpat
  revert r1
  refine fun zqq=>L2.o_E zqq fun t zq1=>?_
  clear zqq
  subst zq1
  exact formatField_int_small hd ⟨.str _,H1,I1.tok _,⟨_,rfl⟩,q⟩
noncomputable def tJoin2 (ta tb:TE):TE:=fun σ H Q=>ta σ H fun x H1=>∃ i:Str,x = .str i ∧ i.length ≤ 10000 ∧ tb σ H1 fun y H2=>∃ j:Str,y = .str j ∧ j.length ≤ 10000 ∧ Q (.str (i ++ j)) H2
theorem empty_cat (i:Str):Str.empty ++ i = i:=by
  obtain ⟨c⟩:=i
  show (⟨#[] ++ c⟩:Str) = ⟨c⟩
  rw [Array.empty_append]
theorem len2z {i j:Str} (hi:i.length ≤ 10000) (hj:j.length ≤ 10000):(i ++ j).length ≤ 20000:=by rw [strLen_append]; omega
theorem pe_join2 (ha:PE X a ta) (hb:PE X b tb):PE X (.JoinedStr [a,b] pos) (tJoin2 ta tb):=by
  intro pins s σ H Q I h
  have hz:100000 < sizeLine:=by decide
  refine JoinedStr_many ?_
  rw [show evalEach ([]:List Expr) X.env = [] from rfl]
  refine joinParts_cons (thn (ha pins s σ H _ I h) fun v s1 zpat=>?_)
  obtain ⟨x,H1,I1,r1,i,rfl,hi,q⟩:=zpat
  revert r1
  refine fun zqq=>L2.o_E zqq fun t zq1=>?_
  clear zqq
  subst zq1
  refine ⟨by rw [empty_cat]; (clear q; omega),joinParts_cons (thn (hb pins s1 σ H1 _ I1 q) fun v s2 zpat=>?_)⟩
  obtain ⟨y,H2,I2,r2,j,rfl,hj,q⟩:=zpat
  revert r2
  refine fun zqq=>L2.o_E zqq fun t2 zq1=>?_
  clear zqq
  subst zq1
  have hl:=len2z hi hj
  dsimp only
  rw [empty_cat]
  exact ⟨by (clear hj hi; omega),joinParts_nil ⟨.str _,H2,I2.tok _,⟨_,rfl⟩,q⟩ (by (clear hj hi; omega))⟩
end
end L2
namespace L2
open PySem PySem.Spec PyProof.Rows
variable [Reg]
section
variable {X:Cx} {O:Ow}
theorem Inv.swap {pins pl pl':List (Addr × Obj)} {σ:St} {H:Hp} {s:Shared} {a:Addr} {h':Heap} {t':Nat} (I:Inv X (pins ++ pl) σ H s) (f:FpOk X pins H a) (k:∀ b o,b ≠ a → s.heap.get? b = some o → h'.get? b = some o)
    (hp:∀ p ∈ pl',(p ∈ pl ∧ p.1 ≠ a) ∨ (p.1 = a ∧ h'.get? a = some p.2 ∧ ∀ v,p.2.data ≠ .cell v)):Inv X (pins ++ pl') σ H { s with heap:=h',toks:=t' }:=by
  refine L2.o_AAAAA (f) fun f0 f1 f2 f3 f4 f5=>?_
  have I1:Inv X pins σ H { s with heap:=h',toks:=t' }:=I.unpinned.turned (t':=t') k f0 f1 f3 f4 f5
  refine I1.pins_of fun p hm=>?_
  rcases List.mem_append.mp hm with hm | hm
  · exact I1.pin p (List.mem_append_right _ hm)
  · rcases hp p hm with ⟨h1,h2⟩ | ⟨h1,h2,h3⟩
    · refine L2.o_A (I.pin p (List.mem_append_right _ (List.mem_append_right _ h1))) fun g1 g2=>?_
      exact ⟨k _ _ h2 g1,g2⟩
    · exact ⟨by rw [h1]; exact h2,by rw [h1]; exact f0,by rw [h1]; exact f1,by rw [h1]; exact f2,h3⟩
noncomputable def minI (n:Int) (ns:List Int):Int:=ns.foldl (fun a b=>if b < a then b else a) n
noncomputable def maxI (n:Int) (ns:List Int):Int:=ns.foldl (fun a b=>if b > a then b else a) n
theorem minI_is:∀ (ns:List Int) (n:Int),minI n ns ∈ n :: ns ∧ ∀ a ∈ n :: ns,minI n ns ≤ a
  | [],n=>⟨by simp [minI],fun a h=>by simp at h; subst h; exact Int.le_refl _⟩
  | m :: r,n=>by
    by_cases hmn:m < n
    · have e:minI n (m :: r) = minI m r:=by unfold minI; rw [List.foldl_cons,if_pos hmn]
      rw [e]
      refine L2.o_A (minI_is r m) fun h1 h2=>?_
      have h3:=h2 _ List.mem_cons_self
      refine ⟨List.mem_cons_of_mem _ h1,fun a ha=>?_⟩
      rcases List.mem_cons.mp ha with rfl | ha
      · (clear e h2; omega)
      · exact h2 a ha
    · have e:minI n (m :: r) = minI n r:=by unfold minI; rw [List.foldl_cons,if_neg hmn]
      rw [e]
      refine L2.o_A (minI_is r n) fun h1 h2=>?_
      have h3:=h2 _ List.mem_cons_self
      refine ⟨?_,fun a ha=>?_⟩
      · rcases List.mem_cons.mp h1 with h1 | h1
        · rw [h1]; exact List.mem_cons_self
        · exact List.mem_cons_of_mem _ (List.mem_cons_of_mem _ h1)
      · rcases List.mem_cons.mp ha with rfl | ha
        · exact h3
        · rcases List.mem_cons.mp ha with rfl | ha
          · (clear e h2; omega)
          · exact h2 a (List.mem_cons_of_mem _ ha)
theorem maxI_is:∀ (ns:List Int) (n:Int),maxI n ns ∈ n :: ns ∧ ∀ a ∈ n :: ns,a ≤ maxI n ns
  | [],n=>⟨by simp [maxI],fun a h=>by simp at h; subst h; exact Int.le_refl _⟩
  | m :: r,n=>by
    by_cases hmn:m > n
    · have e:maxI n (m :: r) = maxI m r:=by unfold maxI; rw [List.foldl_cons,if_pos hmn]
      rw [e]
      refine L2.o_A (maxI_is r m) fun h1 h2=>?_
      have h3:=h2 _ List.mem_cons_self
      refine ⟨List.mem_cons_of_mem _ h1,fun a ha=>?_⟩
      rcases List.mem_cons.mp ha with rfl | ha
      · (clear e h2; omega)
      · exact h2 a ha
    · have e:maxI n (m :: r) = maxI n r:=by unfold maxI; rw [List.foldl_cons,if_neg hmn]
      rw [e]
      refine L2.o_A (maxI_is r n) fun h1 h2=>?_
      have h3:=h2 _ List.mem_cons_self
      refine ⟨?_,fun a ha=>?_⟩
      · rcases List.mem_cons.mp h1 with h1 | h1
        · rw [h1]; exact List.mem_cons_self
        · exact List.mem_cons_of_mem _ (List.mem_cons_of_mem _ h1)
      · rcases List.mem_cons.mp ha with rfl | ha
        · exact h3
        · rcases List.mem_cons.mp ha with rfl | ha
          · (clear e h2; omega)
          · exact h2 a (List.mem_cons_of_mem _ ha)
noncomputable def minLD:PyData → Option PyData
  | .list ds=>(intsO ds).bind fun ns=>match ns with | []=>none | n :: r=>some (.int (minI n r))
  | _=>none
noncomputable def maxLD:PyData → Option PyData
  | .list ds=>(intsO ds).bind fun ns=>match ns with | []=>none | n :: r=>some (.int (maxI n r))
  | _=>none
section
variable {a:Expr} {fa:Rho → Option PyData} {pos p:Pos}
theorem call_minL (hc:X.calm = true):CallR X (.builtin "min") (fun xs H Q=>∃ (a:Addr) (n:Int) (ns:List Int),xs = [.ref a] ∧ SqL X.K H a ((n :: ns).map V.int) ∧ Q (.int (minI n ns)) H):=by
  intro pins s σ H xs us Q I r h
  revert h
  refine fun zqq=>L2.o_EEEAA zqq fun q n ns zq3 hq k=>?_
  clear zqq
  subst zq3
  refine L2.o_EA (vals1 r) fun u zq1 rx=>?_
  subst zq1
  cases rx
  refine L2.o_EAA (I.list hq) fun its r' pl hz=>?_
  have hI:=intsAre_of r'
  refine L2.o_E (hI.allInts.items) fun zs e=>?_
  have hns:n :: ns = zs.toList.map (·.1):=by
    rw [← hI.numsOf,← nums_intItems,← e]
  have hsz:0 < zs.size:=by
    have h3:(n :: ns).length = (zs.toList.map (·.1)).length:=by rw [hns]
    rw [List.length_map] at h3; simp at h3; (clear hz; omega)
  have hl:=pl.isList
  rw [e] at hl
  refine min_intList (I.ok.hd hc) hl hsz fun v h' tk hv hk=>?_
  refine L2.o_E (intItems_at hv) fun t zq1=>?_
  subst zq1
  refine L2.o_A (argBest_lt (numAt zs) (zs.size - 1)) fun h1 h2=>?_
  refine L2.o_A (minI_is ns n) fun g1 g2=>?_
  have a1:numAt zs (argBest (fun i j=>decide (numAt zs i < numAt zs j)) (zs.size - 1)) ∈ n :: ns:=by rw [hns,numAt_eq]; exact getD_mem (by rw [List.length_map,Array.length_toList]; (clear g2 h2 hv hz; omega))
  have a2:=g2 _ a1
  rw [hns] at g1
  refine L2.o_EA (mem_getD g1) fun j hj ej=>?_
  rw [List.length_map,Array.length_toList] at hj
  rw [← numAt_eq] at ej
  have a3:=h2 j (by (clear ej a2 a1 g2 h2 h1 hv hsz hz; omega))
  have a4:numAt zs (argBest (fun i j=>decide (numAt zs i < numAt zs j)) (zs.size - 1)) = minI n ns:=by rw [← ej] at a2 ⊢; (clear ej hj a1 g2 h2 h1 hv hsz hz; omega)
  rw [a4]
  exact ⟨.int _,H,I.kept (t':=tk) hk,⟨t,rfl⟩,k⟩
theorem v_minL (hc:X.calm = true) (hg:Gl X "min") (hm:X.mg "min" = none) (ha:PR X O a fa) (he:autoParam (starEach [a] X.env = (false,eval a X.env) :: starEach [] X.env) L2.ar._auto_1) (hpl:autoParam ((backTo pos (starEach [] X.env)).any (·.1) = false) L2.ar._auto_1)
    (hv:bootBuiltins "min" = some (.builtin "min"):=by decide +kernel):PV X O (.Call (.Name "min" p) [a] [] pos) (fun ρ=>(fa ρ).bind minLD):=
  (pe_callB (call_minL hc) hg hm hv (pa_cons ha pa_nil he) (by decide) (by decide) he hpl).imp fun σ H Q zpat=>by
    obtain ⟨hid,H0,ρ,ow,r,E,hf,k⟩:=zpat
    obtain ⟨d,h1,h2⟩:=bind_some hf
    refine ⟨hid,H0,ρ,ow,d,E,h1,fun x H1 s1 D1=>?_⟩
    unfold minLD at h2
    split at h2
    case h_2=>cases h2
    obtain ⟨ns,h3,h4⟩:=bind_some h2
    cases ns with
    | nil=>exact L2.no_ns h4
    | cons n ns=>
      obtain rfl:=Option.some.inj h4
      have e:=intsO_some h3
      subst e
      obtain ⟨q,vs,rfl,q1,r1⟩:=den_lst D1
      have e2:=r1.isInts
      subst e2
      exact L2.i_EEEAA (q) (n) (ns) (rfl) ((del_same _ _).seq q1) (k _ H1 s1 (.int _))
theorem call_maxL (hc:X.calm = true):CallR X (.builtin "max") (fun xs H Q=>∃ (a:Addr) (n:Int) (ns:List Int),xs = [.ref a] ∧ SqL X.K H a ((n :: ns).map V.int) ∧ Q (.int (maxI n ns)) H):=by
  intro pins s σ H xs us Q I r h
  revert h
  refine fun zqq=>L2.o_EEEAA zqq fun q n ns zq3 hq k=>?_
  clear zqq
  subst zq3
  refine L2.o_EA (vals1 r) fun u zq1 rx=>?_
  subst zq1
  cases rx
  refine L2.o_EAA (I.list hq) fun its r' pl hz=>?_
  have hI:=intsAre_of r'
  refine L2.o_E (hI.allInts.items) fun zs e=>?_
  have hns:n :: ns = zs.toList.map (·.1):=by
    rw [← hI.numsOf,← nums_intItems,← e]
  have hsz:0 < zs.size:=by
    have h3:(n :: ns).length = (zs.toList.map (·.1)).length:=by rw [hns]
    rw [List.length_map] at h3; simp at h3; (clear hz; omega)
  have hl:=pl.isList
  rw [e] at hl
  refine max_intList (I.ok.hd hc) hl hsz fun v h' tk hv hk=>?_
  refine L2.o_E (intItems_at hv) fun t zq1=>?_
  subst zq1
  refine L2.o_A (argBest_gt (numAt zs) (zs.size - 1)) fun h1 h2=>?_
  refine L2.o_A (maxI_is ns n) fun g1 g2=>?_
  have a1:numAt zs (argBest (fun i j=>decide (numAt zs i > numAt zs j)) (zs.size - 1)) ∈ n :: ns:=by rw [hns,numAt_eq]; exact getD_mem (by rw [List.length_map,Array.length_toList]; (clear g2 h2 hv hz; omega))
  have a2:=g2 _ a1
  rw [hns] at g1
  refine L2.o_EA (mem_getD g1) fun j hj ej=>?_
  rw [List.length_map,Array.length_toList] at hj
  rw [← numAt_eq] at ej
  have a3:=h2 j (by (clear ej a2 a1 g2 h2 h1 hv hsz hz; omega))
  have a4:numAt zs (argBest (fun i j=>decide (numAt zs i > numAt zs j)) (zs.size - 1)) = maxI n ns:=by rw [← ej] at a2 ⊢; (clear ej hj a1 g2 h2 h1 hv hsz hz; omega)
  rw [a4]
  exact ⟨.int _,H,I.kept (t':=tk) hk,⟨t,rfl⟩,k⟩
theorem v_maxL (hc:X.calm = true) (hg:Gl X "max") (hm:X.mg "max" = none) (ha:PR X O a fa) (he:autoParam (starEach [a] X.env = (false,eval a X.env) :: starEach [] X.env) L2.ar._auto_1) (hpl:autoParam ((backTo pos (starEach [] X.env)).any (·.1) = false) L2.ar._auto_1)
    (hv:bootBuiltins "max" = some (.builtin "max"):=by decide +kernel):PV X O (.Call (.Name "max" p) [a] [] pos) (fun ρ=>(fa ρ).bind maxLD):=
  (pe_callB (call_maxL hc) hg hm hv (pa_cons ha pa_nil he) (by decide) (by decide) he hpl).imp fun σ H Q zpat=>by
    obtain ⟨hid,H0,ρ,ow,r,E,hf,k⟩:=zpat
    obtain ⟨d,h1,h2⟩:=bind_some hf
    refine ⟨hid,H0,ρ,ow,d,E,h1,fun x H1 s1 D1=>?_⟩
    unfold maxLD at h2
    split at h2
    case h_2=>cases h2
    obtain ⟨ns,h3,h4⟩:=bind_some h2
    cases ns with
    | nil=>exact L2.no_ns h4
    | cons n ns=>
      obtain rfl:=Option.some.inj h4
      have e:=intsO_some h3
      subst e
      obtain ⟨q,vs,rfl,q1,r1⟩:=den_lst D1
      have e2:=r1.isInts
      subst e2
      exact L2.i_EEEAA (q) (n) (ns) (rfl) ((del_same _ _).seq q1) (k _ H1 s1 (.int _))
end
end
end L2
namespace L2
open PySem PySem.Spec PyProof.Rows
structure BaseIn (X:Cx) (b:Str) (CP:Addr):Prop where
  gl:Gl X b
  mg:X.mg b = some (.ref CP)
  rd:PySem.W.readsIn X.K CP (.type "type") = true
  fc:PySem.W.findCls X.K (.ref CP) (.type "type") "__init__" = some (.val (.builtin "ValueError.__init__"))
  sp:PySem.W.specialIn X.K (.ref CP) "__getattribute__" = some (some (.builtin "type.__getattribute__"))
section
variable [Reg] {X:Cx} {a b:Expr} {ta:TA} {B:Str} {CP C e:Addr} {np apos cpos:Pos} {pins:List (Addr × Obj)} {oe:Obj} {vs:Array Value}
theorem ev_binit (c:BaseIn X B CP) (ha:PA X [a,b] ta) {s:Shared} {σ:St} {H:Hp} {Q:Hp → Prop} (I:Inv X (pins ++ [(e,oe)]) σ H s)
    (hx:∀ {s':Shared} {H':Hp},Inv X (pins ++ [(e,oe)]) σ H' s' → ∃ (nm q:Str) (N:Addr) (bs bm:List Value) (hdct:Bool) (sn:List Str) (sub:List Value) (ab:Bool) (col:Option Bool) (dd:Option Addr) (k0 k1 k2 k3 k5:Option Value) (newId:String),s'.heap.get? C = some (excClassObj nm q C N bs bm hdct sn sub ab col dd k0 k1 k2 k3 k5 newId) ∧ OwnTail s'.heap bmVE bm)
    (hc:oe.cls = .ref C) (hd:oe.data = .fields vs) (hz:0 < vs.size) (hfp:∀ H',H' e = none → FpOk X pins H' e)
    (h:ta σ H fun ws H1=>∃ txt,ws = [.ref e,.str txt] ∧ Q H1)
    (hst:autoParam (starEach [a,b] X.env = (false,eval a X.env) :: starEach [b] X.env) L2.ar._auto_1) (hpl:autoParam ((backTo cpos (starEach [b] X.env)).any (·.1) = false) L2.ar._auto_1) (hdb:autoParam ((B == ("__debug__":Str)) = false) L2.ad._auto_1)
    (pl:Sem Bool) (ht:eval (.Call (.Attribute (.Name B np) "__init__" apos) [a,b] [] cpos) X.env = (do
      let ov ← eval (.Name B np) X.env
      standAt apos.atName
      let (f,first) ← holding [ov] (getMethod ov "__init__" pl)
      callWith cpos f first (backTo cpos (starEach [a,b] X.env)) (backToKw cpos (keywordEach [] X.env)))) :
    wpAny (model X.prog X.w) X.A (eval (.Call (.Attribute (.Name B np) "__init__" apos) [a,b] [] cpos) X.env) (fun v s'=>v = .none ∧ ∃ H1 t,Inv X (pins ++ [(e,oe.mapFields (·.setIfInBounds 0 (.ref t)))]) σ H1 s' ∧ Q H1) X.xe s:=by
  refine PySem.W.methodCall_KW (pl:=pl) (thn (pe_glob (v:=.ref CP) c.gl c.mg rfl hdb _ s σ H (fun x H1=>x = .ref CP ∧ H1 = H) I ⟨rfl,rfl⟩) fun u s1 zpat=>?_) ht
  obtain ⟨x,H1,I1,rx,rfl,rfl⟩:=zpat
  obtain rfl:u = Value.ref CP:=rx
  refine PySem.W.method_cls I1.kIn c.sp (PySem.W.cls_value I1.kIn c.rd c.fc (by decide +kernel) ?_)
  have I1':Inv X (pins ++ [(e,oe)]) σ H1 { s1 with toks:=s1.toks + 1 }:=I1.tok _
  have hA:=ha cpos _ _ σ H1 _ I1' h
  rw [hst] at hA ⊢
  refine Calls.callWith_builtin (by show (false || (backTo cpos (starEach [b] X.env)).any (·.1)) = false; rw [hpl] <;> rfl) (Calls.evalArgs_plain (thn hA fun us s2 zpat=>?_))
  obtain ⟨ws,H2,I2,r2,txt,rfl,q⟩:=zpat
  refine L2.o_EEAA (r2.two) fun u1 u2 zq2 ru1 ru2=>?_
  subst zq2
  obtain rfl:u1 = Value.ref e:=ru1
  refine L2.o_EEEEEEEEEEEEEEEEEA (hx I2) fun nm qn N bs bm hdct sn sub ab col dd k0 k1 k2 k3 k5 newId hCl T=>?_
  refine L2.o_AAAA (I2.pin (e,oe) (List.mem_append_right _ (List.mem_append_right _ (List.mem_singleton.mpr rfl)))) fun he hn hne hnf hdc=>?_
  refine base_init PySem.F.excBase_ValueError T hCl he hc hd hz fun h' g1 g2=>⟨rfl,H2,s2.heap.objs.size,?_,q⟩
  refine Inv.swap (t':=s2.toks) (a:=e) (h':=h') I2 (hfp H2 hn) (fun b o hb q'=>g2 b o hb q') fun p hp=>.inr ?_
  rw [List.mem_singleton.mp hp]
  refine ⟨rfl,g1,fun v z=>?_⟩
  rw [Obj.data_mapFields hd] at z
  cases z
theorem Inv.adopt1 {pins:List (Addr × Obj)} {σ:St} {H:Hp} {s:Shared} {a:Addr} {o:HO} (I:Inv X pins σ H s) (f:FpOk X pins H a) (new:ObjOk X.prog X.w (upd H a o) s.heap a o):Inv X pins σ (upd H a o) s:=by
  refine L2.o_AAAAA (f) fun f0 f1 f2 f3 f4 f5=>?_
  have sm:Same H (upd H a o):=same_new f0
  exact I.step (g':=s.gens) (t':=s.toks) (d':=s.drawn) (ch:=[a]) (h':=s.heap) (H':=upd H a o) (fun b hb=>by
      obtain rfl:b = a:=List.mem_singleton.mp hb
      exact ⟨f3,f1,f4,f5⟩) (fun b u _ _ _ e _=>e) (fun b u _ _ _ e _=>⟨u.slots,e⟩) (fun b u hb e n=>by rw [upd_ne fun z=>hb (List.mem_singleton.mpr z)]; exact n) (fun b u _ e=>⟨u,e⟩)
    (fun b ys e=>sm _ _ e) (fun b u ys e=>sm _ _ e) (fun b ys e=>⟨#[],by rw [sm _ _ e]; simp⟩) (fun b e=>sm _ _ e) (fun m hm=>hm) (fun b u e=>by
      by_cases hb:b = a
      · subst hb
        rw [upd_same] at e
        obtain rfl:=Option.some.inj e
        exact new
      · rw [upd_ne hb] at e
        exact (I.hok b u e).stay (fun c v _ q=>q) (fun c q=>sm _ _ q) (fun c ys q=>sm _ _ q) fun c ob ys _ _ q=>sm _ _ q) I.bare
theorem set_excI {f:Str} {y:V} {u:Value} {A:Around} {E:Value → Shared → Prop} {σ:St} {H:Hp} {s:Shared} {Q:Unit → Shared → Prop} (I:Inv X (pins ++ [(e,oe)]) σ H s) (hc:oe.cls = .ref C) (hd0:oe.dict = none) (hd:oe.data = .fields vs)
    (hs:PySem.W.findIn X.K (.ref C) "__setattr__" = some (some (.builtin "object.__setattr__"))) (hp:overVE X.K C = true) (hf:PySem.W.findIn X.K (.ref C) f = some none) (hfp:∀ H',H' e = none → FpOk X pins H' e) (ry:RelV y u)
    (h:∀ s' n,H n = none → Inv X (pins ++ [(e,{ oe with dict:=some n })]) σ (upd H n (.xd [(f,y)])) s' → Q () s'):wpAny (model X.prog X.w) A (setAttr (.ref e) f u) Q E s:=by
  refine L2.o_AAAA (I.pin (e,oe) (List.mem_append_right _ (List.mem_append_right _ (List.mem_singleton.mpr rfl)))) fun he hn hne hnf hdc=>?_
  refine set_exc I.kIn he hc hd0 hd hs hp hf fun h' tk' g1 g2 g3=>?_
  have fresh:H s.heap.objs.size = none:=I.hok.fresh (Nat.le_refl _)
  have I1:=Inv.swap (pl':=[(e,{ oe with dict:=some s.heap.objs.size })]) (t':=tk') (a:=e) (h':=h') I (hfp H hn) g3 fun p hp=>.inr (by
    rw [List.mem_singleton.mp hp]
    exact ⟨rfl,g1,fun v z=>hdc v z⟩)
  refine L2.o_AAAAA (I.fpOk (Nat.le_refl _) fresh) fun f0 f1 f2 f3 f4 f5=>?_
  refine h _ s.heap.objs.size fresh (Inv.adopt1 I1 ⟨f0,f1,f2,f3,f4,fun p hp=>?_⟩ ⟨_,g2,fun g=>?_⟩)
  · rcases List.mem_append.mp hp with z | z
    · exact f5 p (List.mem_append_left _ z)
    · rcases List.mem_append.mp z with z | z
      · exact f5 p (List.mem_append_right _ (List.mem_append_left _ z))
      · rw [List.mem_singleton.mp z]
        exact f5 (e,oe) (List.mem_append_right _ (List.mem_append_right _ (List.mem_singleton.mpr rfl)))
  · rw [List.lookup_cons]
    by_cases q:g = f
    · rw [if_pos q,show (g == f) = true from beq_iff_eq.mpr q]; exact ry
    · rw [if_neg q,show (g == f) = false from beq_eq_false_iff_ne.mpr q]; exact trivial
end
end L2
namespace L2
open PySem PySem.Spec PyProof.Rows
section
variable [Reg] {X:Cx} {a b ov vl:Expr} {ta:TA} {to tv:TE} {B f:Str} {CP C e:Addr} {np apos cpos pos1 pos2 fpos:Pos} {pins:List (Addr × Obj)} {oe:Obj} {vs:Array Value}
structure FldIn (K:PySem.W.Frag) (C:Addr) (f:Str):Prop where
  sa:PySem.W.findIn K (.ref C) "__setattr__" = some (some (.builtin "object.__setattr__"))
  ov:overVE K C = true
  no:PySem.W.findIn K (.ref C) f = some none
theorem init_body (c:BaseIn X B CP) (k:FldIn X.K C f) (ha:PA X [a,b] ta) (ho:PE X ov to) (hv:PE X vl tv) {s:Shared} {σ:St} {H:Hp} {y:V} {Q:Addr → Hp → Prop} (I:Inv X (pins ++ [(e,oe)]) σ H s)
    (hx:∀ {s':Shared} {H':Hp} {oe':Obj},Inv X (pins ++ [(e,oe')]) σ H' s' → ∃ (nm q:Str) (N:Addr) (bs bm:List Value) (hdct:Bool) (sn:List Str) (sub:List Value) (ab:Bool) (col:Option Bool) (dd:Option Addr) (k0 k1 k2 k3 k5:Option Value) (newId:String),s'.heap.get? C = some (excClassObj nm q C N bs bm hdct sn sub ab col dd k0 k1 k2 k3 k5 newId) ∧ OwnTail s'.heap bmVE bm)
    (hc:oe.cls = .ref C) (hd0:oe.dict = none) (hd:oe.data = .fields vs) (hz:0 < vs.size) (hfp:∀ H',H' e = none → FpOk X pins H' e)
    (h:ta σ H fun ws H1=>∃ txt,ws = [.ref e,.str txt] ∧ tv σ H1 fun y' H2=>y' = y ∧ to σ H2 fun x H3=>x = .ref e ∧ ∀ n,H3 n = none → Q n (upd H3 n (.xd [(f,y)])))
    (hst:starEach [a,b] X.env = (false,eval a X.env) :: starEach [b] X.env) (hpl:(backTo cpos (starEach [b] X.env)).any (·.1) = false) (hdb:(B == ("__debug__":Str)) = false)
    (hsw1:swapsWith (.Call (.Attribute (.Name B np) "__init__" apos) [a,b] [] cpos) none pos1.line X.env = pure false) (hsw2:swapsWith vl (some (.Attribute ov f fpos)) pos2.line X.env = pure false)
    (pl:Sem Bool) (ht:eval (.Call (.Attribute (.Name B np) "__init__" apos) [a,b] [] cpos) X.env = (do
      let ov ← eval (.Name B np) X.env
      standAt apos.atName
      let (f,first) ← holding [ov] (getMethod ov "__init__" pl)
      callWith cpos f first (backTo cpos (starEach [a,b] X.env)) (backToKw cpos (keywordEach [] X.env)))) :
    wpAny (model X.prog X.w) X.A (execs [.Expr (.Call (.Attribute (.Name B np) "__init__" apos) [a,b] [] cpos) pos1,.Assign [.Attribute ov f fpos] vl pos2] X.env)
      (fun fl s'=>fl = .next ∧ ∃ H1 t n,Inv X (pins ++ [(e,{ (oe.mapFields (·.setIfInBounds 0 (.ref t))) with dict:=some n })]) σ H1 s' ∧ Q n H1) X.xe s:=by
  refine wpAny_execs_cons (wpAny_Expr_any (thn (ev_binit c ha I (fun J=>hx J) hc hd hz hfp h hst hpl hdb pl ht) fun v s1 zpat=>?_) I.quiet hsw1)
  revert zpat
  refine fun zqq=>L2.o_AEEA zqq fun zq0 H1 t I1 q=>?_
  clear zqq
  subst zq0
  refine wpAny_execs_cons (plainObj_wpAny_Assign_Attribute (thn (hv _ s1 σ H1 _ I1 q) fun u s2 zpat=>?_) hsw2)
  obtain ⟨y',H2,I2,ry,rfl,q2⟩:=zpat
  refine thn (ho _ s2 σ H2 _ I2 q2) fun ov s3 zpat=>?_
  obtain ⟨x,H3,I3,rx,rfl,q3⟩:=zpat
  obtain rfl:ov = Value.ref e:=rx
  exact set_excI I3 ((Obj.cls_mapFields ..).trans hc) ((Obj.dict_mapFields _ _).trans hd0) (Obj.data_mapFields hd _) k.sa k.ov k.no hfp ry fun s4 n hn I4=>wpAny_execs_nil ⟨rfl,_,t,n,I4,q3 n hn⟩
end
end L2
namespace L2
open PySem PySem.Spec PyProof.Rows
noncomputable def cxE (X:Cx) (e:Addr):Cx:={ X with ex:=[e] }
section
variable {X:Cx} {e:Addr} {oe:Obj} {σ:St} {H:Hp} {s:Shared}
theorem Inv.addEx (I:Inv X [] σ H s) (hpn:X.pn = []) (hex:X.ex = []) (he:s.heap.get? e = some oe) (hn:H e = none) (hne:e ≠ X.env.locals) (hcl:∀ x c,X.env.cells.lookup x = some c → c ≠ e) (hb:X.base.get? e = none) (hfs:e ∉ X.fs) (hnc:∀ v,oe.data ≠ .cell v):Inv (cxE X e) ([] ++ [(e,oe)]) σ H s:=by
  have one:∀ {b:Addr},b ∈ (cxE X e).ex → b = e:=fun z=>List.mem_singleton.mp z
  refine ⟨⟨I.ok.mod,I.ok.kind,I.ok.glob,I.ok.blt,I.ok.above,I.ok.inj,I.ok.has,I.ok.cab,I.ok.hd,I.ok.frames,I.ok.stk,fun b z=>?_,I.ok.bs,I.ok.bsz,fun b o q z=>?_,fun b z=>?_,I.ok.funs,I.ok.frf,I.ok.tabs⟩,
    I.os,I.bare,?_,I.loc,I.cell,I.free,I.freeC,fun p hp=>?_,I.hok,I.len⟩
  · rw [one z]; exact ⟨hne,hcl⟩
  · rw [one z] at q; exact absurd (hb.symm.trans q) (by simp)
  · rw [one z]; exact hfs
  · have u:Un X.fs X.ex X.H₀ H X.s₀.heap s.heap:=I.base
    rw [hex] at u
    exact ⟨fun b o q n hb hx=>u.keep b o q n hb (by simp),fun b o q n hb hx=>u.slot b o q n hb (by simp),fun b o q n hx=>u.free b o q n (by simp),fun b o q hx=>u.there b o q (by simp),u.tups,u.frzs,u.tbls,u.tabs⟩
  · have:p = (e,oe):=by
      rcases List.mem_append.mp hp with z | z
      · rw [show (cxE X e).pn = [] from hpn] at z; cases z
      · simpa using z
    rw [this]
    exact ⟨he,hn,hne,hfs,hnc⟩
theorem fpE (hpn:X.pn = []) (hne:e ≠ X.env.locals) (hcl:∀ x c,X.env.cells.lookup x = some c → c ≠ e) (hfs:e ∉ X.fs):∀ H',H' e = none → FpOk (cxE X e) [] H' e:=fun H' h=>⟨h,hne,hfs,.inl (List.mem_singleton.mpr rfl),hcl,fun p hp=>by
  rcases List.mem_append.mp hp with z | z
  · rw [show (cxE X e).pn = [] from hpn] at z; cases z
  · cases z⟩
end
theorem init_fn {CX:CXT} {P:Program} {w:World} {K:PySem.W.Frag} {mg:Str → Option Value} {base:Heap} {k:Nat} {f:Addr} {name qual:Str} {params:Arguments} {body:List Stmt} {scope:Scope} {dV kV doc pm cdv ct oc:Value} {an od:Option Addr}
    {osl:Array (Option Value)} {N ps:List Str} (lk:K.lookup f = some ⟨oc,od,.func (PySem.W.fnOf name qual params body scope dV kV doc pm an cdv ct),osl⟩) (hcd:PySem.W.codeIn K cdv qual = true) (S:FnScope N ps scope)
    {A:Around} {outer:List Env} {s:Shared} {H:Hp} {E:XK} {us:List Value} {vs:List V} {R:Result → Shared → Prop} {e:Addr} {oe:Obj} (hr:Room (k + 1) A) (e0:Env0 P w K mg base A outer s H)
    (hb:BindsTo s (PySem.W.fnOf name qual params body scope dV kV doc pm an cdv ct) ⟨us,[]⟩ (ps.zip us)) (r:Vals vs us) (hl:vs.length = ps.length)
    (he:s.heap.get? e = some oe) (hn:H e = none) (hbe:base.get? e = none) (hfs:e ∉ frs outer) (hnc:∀ v,oe.data ≠ .cell v)
    (hbody:∀ s1,Inv (cxE (cxOf CX P w K mg base N qual scope f cdv A outer s H E) e) ([] ++ [(e,oe)]) (start N vs) H s1 → (∀ H',H' e = none → FpOk (cxE (cxOf CX P w K mg base N qual scope f cdv A outer s H E) e) [] H' e) →
      wpAny (model P w) (A.deeper (envOfC qual scope s.heap.objs.size f cdv)) (execs body (envOfC qual scope s.heap.objs.size f cdv)) (fun fl s'=>fl = .next ∧ R (.ok (.ret .none)) s') (cxE (cxOf CX P w K mg base N qual scope f cdv A outer s H E) e).xe s1)
    (hxe:∀ e' s',(cxE (cxOf CX P w K mg base N qual scope f cdv A outer s H E) e).xe e' s' → wpAny (model P w) (A.deeper (envOfC qual scope s.heap.objs.size f cdv)) (leaving (envOfC qual scope s.heap.objs.size f cdv) e') (fun _ s''=>R (.error e') s'') (fun e'' s''=>R (.error e'') s'') s') :
    codeAny (model P w) A (.call (.ref f) ⟨us,[]⟩) R s:=by
  have base_kept:∀ b o,base.get? b = some o → s.heap.get? b = some o:=fun b o q=>(e0.bs b o q).1
  have KX:=e0.mod.kin.keeps base_kept
  have kinds:∀ y ∈ ps.zip us,_:=fun y hy=>(S.par y.1 (List.of_mem_zip hy).1).elim (fun q=>Or.inl (b:=scope.names.lookup y.1 = some .cell ∧ ((cellsFrom (s.heap.objs.size + 1) scope.names []).lookup y.1).isSome = true) q) fun q=>.inr ⟨q,PySem.W.cellsFrom_some _ _ _ (.inl q)⟩
  refine codeAny_call_function hr.depth (KX _ _ lk) rfl S.co S.gen rfl (PySem.W.codeRec_of KX hcd) (hb _ _ _ _ (wpAny_newFunctionEnv_cells S.kind kinds fun env same s1 x=>?_))
  subst same
  refine ⟨(e0.mod.nolimit.keeps base_kept).keeps x.toInCall.keep,codeAny_func ?_⟩
  have I0:=inv_start (CX:=CX) (E:=E) S hr.hd e0 hl r x
  have hlt:e < s.heap.objs.size:=Heap.lt_size he
  have hne:e ≠ (cxOf CX P w K mg base N qual scope f cdv A outer s H E).env.locals:=Nat.ne_of_lt hlt
  have hcl:∀ y c,(cxOf CX P w K mg base N qual scope f cdv A outer s H E).env.cells.lookup y = some c → c ≠ e:=fun y c q z=>by
    have:=x.above y c (PySem.mem_of_lookup q)
    rw [z] at this
    exact absurd (Nat.lt_trans hlt this) (Nat.lt_irrefl _)
  have IE:=Inv.addEx I0 rfl rfl (x.toInCall.keep _ _ he) hn hne hcl hbe hfs hnc
  refine wpAny_mono (hbody s1 IE (fpE rfl hne hcl hfs)) (fun fl s' hs=>?_) fun e' s' hs=>hxe e' s' hs
  revert hs
  refine fun zqq=>L2.o_A zqq fun zq0 hs=>?_
  clear zqq
  subst zq0
  exact hs
end L2
namespace L2
open PySem PySem.Spec PyProof.Rows
section
variable {env:Env} {M:Model} {A:Around} {E:Value → Shared → Prop}
variable {C N:Addr} {nm q:Str} {bs bm:List Value} {hdct:Bool} {sn:List Str} {sub:List Value} {ab:Bool} {col:Option Bool} {dd:Option Addr} {k0 k1 k2 k3 k5:Option Value} {newId:String}
theorem raise_made {s:Shared} {x:Sem Value} {Q:Flow → Shared → Prop} (hbase:bm.contains (.type "BaseException") = true) (hh:A.handled = none)
    (h:wpAny M A x (fun v s1=>∃ e oc od vs osl,v = .ref e ∧ s1.heap.get? C = some (excClassObj nm q C N bs bm hdct sn sub ab col dd k0 k1 k2 k3 k5 newId) ∧ s1.heap.get? e = some ⟨oc,od,.fields vs,osl⟩ ∧ vs[1]? = some .none ∧ oc = .ref C ∧ E (.ref e) s1) E s) :
    wpAny M A (raiseStmt env (some x) none) Q E s:=by
  have known:(Value.ref C :: bm).contains (.type "BaseException") = true:=by rw [List.contains_cons,hbase,Bool.or_true]
  unfold raiseStmt
  refine wpAny_bind (wpAny_mono h (fun v s1 z=>?_) fun _ _ y=>y)
  revert z
  refine fun zqq=>L2.o_EEEEEAAAAA zqq fun e oc od vs osl zq5 hCl he hv zq9 hE=>?_
  clear zqq
  subst zq5
  subst zq9
  obtain ⟨hp,g,d,tk,os⟩:=s1
  repeat (first | with_reducible refine wpAny_loadPart_at he ?_ | with_reducible refine wpAny_loadPart_at hCl ?_ | (with_reducible refine wpAny_isSubtype_exc hCl ?_; rw [known]) | wp_step)
  rw [hv]
  refine wpAny_pure ?_
  rw [if_neg (by decide)]
  exact wpAny_pure (wpAny_raiseNew_none hh hE)
end
section
variable {P:Program} {w:World} {A:Around} {E:Value → Shared → Prop} {s:Shared} {env:Env}
variable {C N:Addr} {nm q:Str} {bs bm bmB:List Value} {hdct:Bool} {sn:List Str} {sub:List Value} {ab:Bool} {col:Option Bool} {dd:Option Addr} {k0 k1 k2 k3 k5:Option Value} {B Bn newId nid initId inN:String} {bmN:List Value}
theorem raise_own (Fn:ExcBaseFacts Bn newId inN bmN) (hBn:bmB.contains (.type Bn) = true) (F:ExcBaseFacts B nid initId bmB) {x:Str} {np cpos pos:Pos} {args:List Expr} {fI:Addr} {oI:Obj} {Q:Flow → Shared → Prop}
    (hbase:bm.contains (.type "BaseException") = true) (hh:A.handled = none) (hplain:(backTo cpos (starEach args env)).any (·.1) = false) (hfc:oI.cls = .type "function")
    (h:wpAny (model P w) A (eval (.Name x np) env) (fun f s1=>f = .ref C ∧ wpAny (model P w) A (evalArgs (.ref C) true (backTo cpos (starEach args env)) []) (fun a s2=>a.kw = [] ∧ a.pos.length ≤ sizeLine ∧ s2.heap.get? C = some (excClassObj nm q C N bs bm hdct sn sub ab col dd k0 k1 k2 k3 k5 newId) ∧ (∃ mN,s2.heap.Ns N mN ∧ mN "__init__" = some (.ref fI)) ∧ OwnTail s2.heap bmB bm ∧ s2.heap.get? fI = some oI ∧
        ∀ h' e,Heap.MadeExcOf s2.heap h' e (.ref C) a.pos → s2.heap.objs.size ≤ e → wpAny (model P w) (A.under (.builtin "type.__call__" ⟨.ref C :: a.pos,[]⟩)) (call (.ref fI) (.ref e :: a.pos)) (fun r s3=>r = .none ∧ s3.heap.get? C = some (excClassObj nm q C N bs bm hdct sn sub ab col dd k0 k1 k2 k3 k5 newId) ∧ (∃ od vs osl,s3.heap.get? e = some ⟨.ref C,od,.fields vs,osl⟩ ∧ vs[1]? = some .none) ∧ E (.ref e) s3) E { s2 with heap:=h' }) E s1) E s) :
    wpAny (model P w) A (exec (.Raise (some (.Call (.Name x np) args [] cpos)) none pos) env) Q E s:=by
  rw [arm_exec_Raise]
  refine wpAny_bind (wpAny_standAt (raise_made (C:=C) (nm:=nm) (q:=q) (N:=N) (bs:=bs) (bm:=bm) (hdct:=hdct) (sn:=sn) (sub:=sub) (ab:=ab) (col:=col) (dd:=dd) (k0:=k0) (k1:=k1) (k2:=k2) (k3:=k3) (k5:=k5) (newId:=newId) hbase hh (wpAny_bind (wpAny_mono (wpAny_Call_ofName (wpAny_mono h (fun f s1 z=>?_) fun _ _ y=>y)) (fun v s3 z=>wpAny_bind (wpAny_standAt (wpAny_pure z))) fun _ _ y=>y))))
  revert z
  refine fun zqq=>L2.o_A zqq fun zq0 z=>?_
  clear zqq
  subst zq0
  unfold callWith
  refine wpAny_bind (wpAny_holding (wpAny_mono z (fun a s2 z=>wpAny_bind (wpAny_standAt ?_)) fun _ _ y=>y))
  obtain ⟨ap,ak⟩:=a
  obtain ⟨hkw,hlen,hCl,⟨mN,hn,hi⟩,T,hfI,z⟩:=z
  obtain rfl:ak = []:=hkw
  obtain ⟨hp,g,d,tk,os⟩:=s2
  simp only [hplain]
  refine wpAny_bind (wpAny_keeperOf_exc hCl (wpAny_bind (call_own Fn hBn F T hCl hn hi hfI hfc (fun h' e hm hz=>wpAny_mono (z h' e hm hz) (fun r s3 y=>⟨y.1,wpAny_bind (wpAny_holding (wpAny_point (wpAny_pure ?_)))⟩) fun _ _ y=>y) hlen)))
  obtain ⟨_,y1,⟨od,vs,osl,y2,y4⟩,y3⟩:=y
  exact L2.i_EEEEEAAAAA (e) (_) (od) (vs) (osl) (rfl) (y1) (y2) (y4) (rfl) (y3)
end
end L2
namespace L2
open PySem PySem.Spec PyProof.Rows
variable [Reg]
noncomputable def dictL:PyData → List (PyData × PyData)
  | .dict l=>l
  | _=>[]
noncomputable def tupL:PyData → List PyData
  | .tuple l=>l
  | _=>[]
noncomputable def isStr (f:Str):PyData → Bool
  | .str n=>n == f
  | _=>false
noncomputable def twoL (f:Str):List PyData → Option PyData
  | [n,d]=>if isStr f n = true then some d else none
  | _=>none
noncomputable def fldX (f:Str) (d:PyData):Option PyData:=twoL f (tupL ((dictL d).getD 1 (.none,.none)).2)
theorem isStr_eq {f:Str} {n:PyData} (h:isStr f n = true):n = .str f:=by
  cases n with
  | str x=>rw [show x = f from eq_of_beq h]
  | _=>exact L2.no_ft h
theorem twoL_eq {f:Str} {l:List PyData} {r:PyData} (h:twoL f l = some r):l = [.str f,r]:=by
  rcases l with _ | ⟨a,_ | ⟨b,_ | ⟨c,l⟩⟩⟩
  · exact L2.no_ns h
  · exact L2.no_ns h
  · have h':(if isStr f a = true then some b else none) = some r:=h
    by_cases q:isStr f a = true
    · rw [if_pos q] at h'; cases h'; rw [isStr_eq q]
    · rw [if_neg q] at h'; cases h'
  · exact L2.no_ns h
noncomputable def FldX (K:PySem.W.Frag) (exs:List Str) (f:Str):Prop:=∀ cls ∈ exs,∀ C,PySem.W.nsIn K mainGlobals cls = some (some (.ref C)) → ExcKit K C ∧ PySem.W.findIn K (.ref C) f = some none
noncomputable def fldXs (K:PySem.W.Frag) (exs:List Str) (f:Str):Bool:=exs.all fun cls=>match PySem.W.nsIn K mainGlobals cls with
  | some (some (.ref C))=>excKit K C && PySem.W.findIn K (.ref C) f == some none
  | _=>true
theorem fldX_of {K:PySem.W.Frag} {exs:List Str} {f:Str} (h:fldXs K exs f = true):FldX K exs f:=by
  intro cls hc C hn
  have:=List.all_eq_true.mp h cls hc
  rw [hn] at this
  dsimp only at this
  rw [Bool.and_eq_true] at this
  exact ⟨excKit_of this.1,eq_of_beq this.2⟩
noncomputable def isYes:PyData → Bool
  | .bool b=>b
  | _=>false
noncomputable def isIn (exs:List Str):PyData → Bool
  | .str c=>exs.contains c
  | _=>false
noncomputable def inX (exs:List Str) (d:PyData):Bool:=isYes ((dictL d).getD 0 (.none,.none)).1 && isIn exs ((dictL d).getD 0 (.none,.none)).2
theorem nm_two {fv:List (Str × V)} {K:PySem.W.Frag} {H:Hp} {fd:List PyData} {n d:PyData} (e:nmD fv ++ fd = [n,d]) (D:DenL K H (fv.map (·.2)) fd):∃ m w,fv = [(m,w)] ∧ n = .str m ∧ Den K H w d:=by
  rcases fv with _ | ⟨⟨m,w⟩,_ | ⟨p2,fv⟩⟩
  · cases D; cases e
  · cases D with
    | cons D1 D2=>cases D2; cases e; exact ⟨m,w,rfl,rfl,D1⟩
  · have h1:=congrArg List.length e
    have h2:=D.length
    rw [List.length_append,show (nmD ((m,w) :: p2 :: fv)).length = fv.length + 2 from List.length_map _] at h1
    rw [List.length_map] at h2
    have h2':fv.length + 2 = fd.length:=h2
    have h1':fv.length + 2 + fd.length = 2:=h1
    (clear h2 h1; omega)
section
variable {X:Cx} {O:Ow} {a:Expr} {fa:Rho → Option PyData} {pos:Pos} {f:Str} {exs:List Str}
theorem get_excI {pins:List (Addr × Obj)} {σ:St} {H:Hp} {s:Shared} {e:Addr} {cls:Str} {v:V} {b:Bool} {A:Around} {E:Value → Shared → Prop} {Q:Value → Shared → Prop} (I:Inv X pins σ H s) (h:ExcV X.K H e cls [(f,v)]) (c:FldX X.K exs f) (hc:cls ∈ exs)
    (hq:∀ u s',Inv X pins σ H s' → RelV v u → Q u s'):wpAny (model X.prog X.w) A (getAttr (.ref e) f b) Q E s:=by
  obtain ⟨oe,C,vs,h1,h2,h3,h4,h5⟩:=h
  obtain ⟨q,_⟩:=(show ObjOk X.prog X.w H s.heap e (.frz oe _) from I.hok e _ h1)
  have hn:PySem.W.notCls oe = true:=by unfold PySem.W.notCls; rw [h3]
  rcases h5 with ⟨h5,_⟩ | ⟨dx,h5,h6⟩
  · cases h5
  obtain ⟨mA,hns,hl⟩:=(show ∃ mA,s.heap.Ns1 dx mA ∧ ∀ g,RelO (List.lookup g [(f,v)]) (mA g) from I.hok dx _ h6)
  obtain ⟨od,ho,hlo⟩:=lookIn_ns hns
  have J:PySem.W.InstAt s.heap e oe C (some od):=⟨q,h2,hn,by rw [h5]; exact ho⟩
  obtain ⟨k,hf⟩:=c cls hc C h4
  obtain ⟨u,hu,ru⟩:=RelO.some_of (v:=v) (o:=mA f) (by have:=hl f; rwa [List.lookup_cons,beq_self_eq_true] at this)
  have hfo:PySem.W.findObj X.K C (some od) f = some (.value u):=PySem.W.findObj_own k.hd hf rfl (by rw [hlo,hu])
  unfold getAttr
  exact wpAny_bind (wpAny_mkText (exc_getBy (s:={ s with toks:=s.toks + 1 }) I.kIn J k (handed_of ru) (fun {A' E' P} hp=>exc_entry_val (s:={ s with toks:=s.toks + 1 }) I.kIn J hfo hp) (hq u _ (I.tok _) ru)))
noncomputable def fldXD (exs:List Str) (f:Str) (d:PyData):Option PyData:=if inX exs d = true then fldX f d else none
theorem r_fldX (c:FldX X.K exs f) (ha:PR X O a fa) (hb:autoParam (attributeBase a f X.env (eval a X.env) = eval a X.env) L2.ar._auto_1):PR X O (.Attribute a f pos) (fun ρ=>(fa ρ).bind (fldXD exs f)):=by
  intro pins s σ H Q I zpat
  obtain ⟨hid,H0,ρ,ow,r,E,hf,k⟩:=zpat
  obtain ⟨d,h1,h2⟩:=bind_some hf
  refine attr_of hb (thn (ha pins s σ H (fun x H1=>Same H H1 ∧ Den X.K (del H1 hid) x d) I ⟨hid,H0,ρ,ow,d,E,h1,fun x H1 s1 D1=>⟨s1,D1⟩⟩) fun u s1 zpat=>?_)
  obtain ⟨x,H1,I1,rx,sm,D1⟩:=zpat
  unfold fldXD at h2
  split at h2
  case isFalse=>cases h2
  rename_i hin
  have key:∃ e cls w,x = .ref e ∧ ExcV X.K (del H1 hid) e cls [(f,w)] ∧ cls ∈ exs ∧ Den X.K (del H1 hid) w r:=by
    cases D1 with
    | @exc e cls fv fd hv hr=>
      have hm:cls ∈ exs:=List.contains_iff_mem.mp hin
      have e2:nmD fv ++ fd = [.str f,r]:=twoL_eq h2
      obtain ⟨m,w,rfl,e3,Dw⟩:=nm_two e2 hr
      cases e3
      exact ⟨e,cls,w,rfl,hv,hm,Dw⟩
    | _=>exact L2.no_ft hin
  obtain ⟨e,cls,w,rfl,hv,hm,Dw⟩:=key
  obtain rfl:u = Value.ref e:=rx
  exact get_excI I1 (hv.mono (del_same _ _)) c hm fun u s2 I2 ru=>⟨w,H1,I2,ru,k w H1 sm Dw⟩
end
theorem ft_non {X:Cx} {O:Ow} {T:Ty} {j:Nat} {pos:Pos}:PFt X O T (.Constant .none j pos) (fun _=>some .none):=pe_non.imp fun σ H Q zpat=>by
  obtain ⟨hid,H0,ρ,ow,d,E,hf,k⟩:=zpat
  obtain rfl:=Option.some.inj hf
  exact k .non [] H (Same.refl H) (fun p hp=>by cases hp) .non
end L2
namespace L2
open PySem PySem.Spec PyProof.Rows
variable [Reg]
inductive XHas (K:PySem.W.Frag) (C fI:Addr):Prop
  | mk (nm q:Str) (N:Addr) (bs bm:List Value) (hdct:Bool) (sn:List Str) (sub:List Value) (ab:Bool) (col:Option Bool) (dd:Option Addr) (k0 k1 k2 k3 k5:Option Value) (ob:Obj) (l:K.lookup C = some ob) (eo:ob = excClassObj nm q C N bs bm hdct sn sub ab col dd k0 k1 k2 k3 k5 "ValueError.__new__") (t:PySem.W.tailIn K bmVE bm = true) (o:PySem.W.nsOkIn K N = true) (i:PySem.W.nsIn K N "__init__" = some (some (.ref fI))):XHas K C fI
theorem XHas.of {K:PySem.W.Frag} {C fI:Addr} {nm q:Str} {N:Addr} {bs bm:List Value} {hdct:Bool} {sn:List Str} {sub:List Value} {ab:Bool} {col:Option Bool} {dd:Option Addr} {k0 k1 k2 k3 k5:Option Value} {ob:Obj} (l:K.lookup C = some ob) (eo:ob = excClassObj nm q C N bs bm hdct sn sub ab col dd k0 k1 k2 k3 k5 "ValueError.__new__") (t:PySem.W.tailIn K bmVE bm = true) (o:PySem.W.nsOkIn K N = true) (i:PySem.W.nsIn K N "__init__" = some (some (.ref fI))):XHas K C fI:=⟨nm,q,N,bs,bm,hdct,sn,sub,ab,col,dd,k0,k1,k2,k3,k5,ob,l,eo,t,o,i⟩
structure XOwn (K:PySem.W.Frag) (x:Str) (C fI:Addr):Prop where
  ns:PySem.W.nsIn K mainGlobals x = some (some (.ref C))
  ex:XHas K C fI
inductive OwnObj (h:Heap) (C fI:Addr):Prop
  | mk (nm q:Str) (N:Addr) (bs bm:List Value) (hdct:Bool) (sn:List Str) (sub:List Value) (ab:Bool) (col:Option Bool) (dd:Option Addr) (k0 k1 k2 k3 k5:Option Value) (mN:Str → Option Value) (hC:h.get? C = some (excClassObj nm q C N bs bm hdct sn sub ab col dd k0 k1 k2 k3 k5 "ValueError.__new__")) (hN:h.Ns N mN) (hi:mN "__init__" = some (.ref fI)) (T:OwnTail h bmVE bm):OwnObj h C fI
theorem ns_some {K:PySem.W.Frag} {h:Heap} {N:Addr} {m:Str → Option Value} {x:Str} {v:Value} (Xk:K.In h) (G:h.Ns N m) (e:PySem.W.nsIn K N x = some (some v)):m x = some v:=by
  obtain ⟨o,es,ep,ho,hd,_,hf⟩:=G
  unfold PySem.W.nsIn at e
  split at e
  · rename_i o' ho'
    have:=Xk _ _ ho'
    rw [ho] at this
    cases this
    cases hd
    split at e
    · rename_i en he
      cases e
      have:=hf x
      unfold nsFind findBy at this
      rw [← Array.find?_toList,he] at this
      exact this.symm
    · split at e <;> cases e
  · cases e
theorem XOwn.obj {K:PySem.W.Frag} {h:Heap} {x:Str} {C fI:Addr} (o:XOwn K x C fI) (Xk:K.In h):OwnObj h C fI:=by
  obtain ⟨nm,q,N,bs,bm,hdct,sn,sub,ab,col,dd,k0,k1,k2,k3,k5,ob,h1,rfl,h2,h3,h4⟩:=o.ex
  have hN:h.Ns N _:=.of_isNs (PySem.W.isNs_of_in Xk h3)
  exact ⟨nm,q,N,bs,bm,hdct,sn,sub,ab,col,dd,k0,k1,k2,k3,k5,_,Xk _ _ h1,hN,ns_some Xk hN h4,PySem.W.tail_of_in Xk h2⟩
inductive InitEnd (P:Program) (w:World) (outer:List Env) (e:Addr) (oe:Obj) (f:Str) (v:V) (H:Hp) (s:Shared) (r:Result) (s':Shared):Prop
  | mk (t n:Addr) (H':Hp) (hr:r = .ok (.ret .none)) (os:s'.os = s.os) (bare:AllBare s'.gens) (un:Un (frs outer) [e] H H' s.heap s'.heap) (hok:HOk P w H' s'.heap) (sm:Same H H') (new:H n = none) (dx:H' n = some (.xd [(f,v)])) (fre:H' e = none)
      (he:s'.heap.get? e = some { (oe.mapFields (·.setIfInBounds 0 (.ref t))) with dict:=some n }):InitEnd P w outer e oe f v H s r s'
noncomputable def InitOk (P:Program) (w:World) (K:PySem.W.Frag) (mg:Str → Option Value) (base:Heap) (k:Nat) (fI C:Addr) (f:Str) (G:V → Hp → Prop):Prop:=
  ∀ (A:Around) (outer:List Env) (s:Shared) (H:Hp) (e:Addr) (oe:Obj) (vs:Array Value) (v:V) (u:Value),Room k A → Env0 P w K mg base A outer s H → s.heap.get? e = some oe → oe.cls = .ref C → oe.dict = none → oe.data = .fields vs → 0 < vs.size → H e = none → base.get? e = none → e ∉ frs outer → RelV v u → G v H →
    codeAny (model P w) A (.call (.ref fI) ⟨[.ref e,u],[]⟩) (InitEnd P w outer e oe f v H s) s
noncomputable def IntV (v:V) (_:Hp):Prop:=∃ i:Int,v = .int i ∧ i.natAbs.log2 < 1920
structure IBody (X:Cx) (B self y:Str) (CP:Addr) (b:Expr) (tb:TE) (np apos cpos ap sp vp:Pos):Prop where
  bi:BaseIn X B CP
  tx:PE X b tb
  s1:PE X (.Name self ap) (tVar 0)
  s2:PE X (.Name self sp) (tVar 0)
  va:PE X (.Name y vp) (tVar 1)
  st:starEach [.Name self ap,b] X.env = (false,eval (.Name self ap) X.env) :: starEach [b] X.env
  st2:starEach [b] X.env = (false,eval b X.env) :: starEach [] X.env
  pl:(backTo cpos (starEach [b] X.env)).any (·.1) = false
  ev:∃ pl:Sem Bool,eval (.Call (.Attribute (.Name B np) "__init__" apos) [.Name self ap,b] [] cpos) X.env = (do
      let ov ← eval (.Name B np) X.env
      standAt apos.atName
      let (f,first) ← holding [ov] (getMethod ov "__init__" pl)
      callWith cpos f first (backTo cpos (starEach [.Name self ap,b] X.env)) (backToKw cpos (keywordEach [] X.env)))
section
variable {P:Program} {w:World} {K:PySem.W.Frag} {mg:Str → Option Value} {base:Heap} {k:Nat} {C CP fI:Addr} {fd:FuncData} {x B f qual self y:Str} {st:Stmt} {np apos cpos pos1 pos2 fpos ap sp vp:Pos}
theorem init_ok {b:Expr} {tb:TE} {G:V → Hp → Prop} (o:XOwn K x C fI) (F:Fun K "__init__" qual st fI fd) (S:FnScope [self,y] [self,y] (defScope st)) (hb:Binds K fd [self,y] []) (kf:FldIn K C f)
    (hst:defBody st = [.Expr (.Call (.Attribute (.Name B np) "__init__" apos) [.Name self ap,b] [] cpos) pos1,.Assign [.Attribute (.Name self sp) f fpos] (.Name y vp) pos2])
    (hsw:∀ env,swapsWith (.Call (.Attribute (.Name B np) "__init__" apos) [.Name self ap,b] [] cpos) none pos1.line env = pure false) (hsw2:∀ env,swapsWith (.Name y vp) (some (.Attribute (.Name self sp) f fpos)) pos2.line env = pure false)
    (hbody:∀ (e:Addr) (cdv:Value) (A:Around) (outer:List Env) (s:Shared) (H:Hp),Room k (A.deeper (envOfC qual (defScope st) s.heap.objs.size fI cdv)) → IBody (cxE (cxOf CX0 P w K mg base [self,y] qual (defScope st) fI cdv A outer s H E0) e) B self y CP b tb np apos cpos ap sp vp)
    (htb:∀ (e:Addr) (v:V) (H:Hp),G v H → ∀ Q:VK,(∀ txt H',Same H H' → Q (.str txt) H') → tb [some (.ref e),some v] H Q) (hdb:autoParam ((B == ("__debug__":Str)) = false) L2.ad._auto_1):InitOk P w K mg base (k + 1) fI C f G:=by
  intro A outer s H e oe vs v u hr e0 he hcl hdi hdat hz hn hbe hfs rv hG
  obtain ⟨oc,od,kV,doc,pm,an,cdv,ct,osl,rfl,lk,hcd⟩:=F.ex
  refine init_fn (CX:=CX0) (E:=E0) (vs:=[.ref e,v]) lk hcd S hr e0 ?_ (.cons rfl (.cons rv .nil)) rfl he hn hbe hfs (fun z q=>by rw [hdat] at q; cases q) (fun s1 I1 fp=>?_) fun e' s' z=>wpAny_mono z (fun _ _ y=>y.elim) fun _ _ y=>y.elim
  · have:=hb s [.ref e,u] (e0.mod.kin.keeps fun b q z=>(e0.bs b q z).1) rfl
    rwa [List.append_nil] at this
  rw [hst]
  have B0:=hbody e cdv A outer s H (hr.deeper _)
  obtain ⟨bbi,btx,bs1,bs2,bva,bst,bst2,bpl,pl,hev⟩:=B0
  refine wpAny_mono (init_body (pins:=[]) (oe:=oe) (y:=v) (Q:=fun n H1=>Same H H1 ∧ H n = none ∧ H1 n = some (.xd [(f,v)])) bbi kf (pa_cons bs1 (pa_cons btx pa_nil bst2) bst) bs2 bva I1 (fun {s' H' oe'} J=>?_) hcl hdi hdat hz fp ?_ bst bpl hdb (hsw _) (hsw2 _) pl hev) (fun fl s' q=>?_) fun _ _ z=>z
  · obtain ⟨nm,q,N,bs,bm,hdct,sn,sub,ab,col,dd,k0,k1,k2,k3,k5,mN,hC,hN,hi,T⟩:=o.obj J.kIn
    exact ⟨nm,q,N,bs,bm,hdct,sn,sub,ab,col,dd,k0,k1,k2,k3,k5,_,hC,T⟩
  · refine ⟨.ref e,rfl,htb e v H hG _ fun txt H1 sm1=>⟨txt,rfl,v,rfl,rfl,.ref e,rfl,rfl,fun n hn1=>⟨fun a oo q=>?_,sm1.free hn1,upd_same⟩⟩⟩
    rw [upd_ne (ne_of_none (sm1 _ _ q) hn1)]; exact sm1 _ _ q
  · obtain ⟨rfl,H1,t,n,I2,sm,hn',hx'⟩:=q
    obtain ⟨p1,p2,_⟩:=I2.pin (e,_) (List.mem_append_right _ (List.mem_append_right _ (List.mem_singleton.mpr rfl)))
    exact ⟨rfl,t,n,H1,rfl,I2.os,I2.bare,I2.base,I2.hok,sm,hn',hx',p2,p1⟩
end
section
variable {X:Cx} {O:Ow} {x f:Str} {C fI:Addr} {np cpos pos:Pos} {a:Expr} {ta:TE} {k:Nat} {G:V → Hp → Prop}
theorem ps_raise1 {oI:Obj} (hc:X.calm = true) (hex:X.ex = []) (hg:Gl X x) (hm:X.mg x = some (.ref C)) (o:XOwn X.K x C fI) (lk:X.K.lookup fI = some oI) (hfc:oI.cls = .type "function") (hI:InitOk X.prog X.w X.K X.mg X.base k fI C f G) (hr:Room (k + 1) X.A) (ha:PE X a ta)
    (hdb:autoParam ((x == ("__debug__":Str)) = false) L2.ad._auto_1) (he:autoParam (starEach [a] X.env = (false,eval a X.env) :: starEach [] X.env) L2.ar._auto_1) (hpl:autoParam ((backTo cpos (starEach [a] X.env)).any (·.1) = false) L2.ar._auto_1) :
    PS X (.Raise (some (.Call (.Name x np) [a] [] cpos)) none pos) (fun D σ H=>ta σ H fun v H1=>G v H1 ∧ ∀ pins s' e n H2,Inv X pins σ H2 s' → Same H1 H2 → H1 n = none → H2 n = some (.xd [(f,v)]) → Fly X pins H2 s' e C (some n) → X.xe (.ref e) s'):=by
  intro pins s σ H D I h
  obtain ⟨nmx,qx,Nx,bsx,bmx,hdctx,snx,subx,abx,colx,ddx,x0,x1,x2,x3,x5,ob,e1,rfl,e2,e3,e4⟩:=o.ex
  refine raise_own (C:=C) (nm:=nmx) (q:=qx) (N:=Nx) (bs:=bsx) (bm:=bmx) (hdct:=hdctx) (sn:=snx) (sub:=subx) (ab:=abx) (col:=colx) (dd:=ddx) (k0:=x0) (k1:=x1) (k2:=x2) (k3:=x3) (k5:=x5) (fI:=fI) (oI:=oI)
    F.excBase_ValueError (by decide) F.excBase_ValueError ((PySem.W.tail_of_in I.kIn e2).hasType F.excBase_ValueError.hasBase) (I.ok.hd hc) hpl hfc (ld_glob I hg hm ⟨rfl,?_⟩ hdb)
  have hA:=(pa_cons ha pa_nil he:PA X [a] (tCons ta tNil)) cpos pins s σ H (fun ws H1=>match ws with
    | [v]=>G v H1 ∧ ∀ pins s' e n H2,Inv X pins σ H2 s' → Same H1 H2 → H1 n = none → H2 n = some (.xd [(f,v)]) → Fly X pins H2 s' e C (some n) → X.xe (.ref e) s'
    | _=>False) I h
  rw [he] at hA ⊢
  refine Calls.evalArgs_plain (thn hA fun us s2 zpat=>?_)
  obtain ⟨ws,H2,I2,r2,hG⟩:=zpat
  cases r2 with
  | nil=>exact hG.elim
  | cons rv r2=>
    cases r2 with
    | cons _ _=>exact hG.elim
    | nil=>?_
    obtain ⟨hG,kk⟩:=hG
    rename_i u
    have hNs:s2.heap.Ns Nx _:=.of_isNs (PySem.W.isNs_of_in I2.kIn e3)
    refine ⟨rfl,by show 1 ≤ sizeLine; decide,I2.kIn _ _ e1,⟨_,hNs,ns_some I2.kIn hNs e4⟩,PySem.W.tail_of_in I2.kIn e2,I2.kIn _ _ lk,fun h' e hmd hsz=>?_⟩
    have I3:Inv X pins σ H2 { s2 with heap:=h' }:=I2.kept (t':=s2.toks) hmd.keeps
    obtain ⟨t,ht,_,_⟩:=hmd.there
    obtain ⟨n1,n2,n3⟩:=I2.none_of hex hmd.new
    have nb:X.base.get? e = none:=by
      cases q:X.base.get? e with
      | none=>rfl
      | some oo=>exact absurd (hmd.new.symm.trans (I2.bs e oo q).1) (by simp)
    have nf:e ∉ frs X.stack:=fun z=>by
      obtain ⟨_,oo,ho,_⟩:=I2.stack.mem z
      exact absurd (hmd.new.symm.trans ho) (by simp)
    refine wpAny_call (codeAny_mono (hI _ X.stack _ H2 e _ _ _ u (hr.make C _ _) (I3.env0.make C _ _) ht rfl rfl rfl (by show 0 < 6; decide) n1 nb nf rv hG) fun r s4 zpat=>?_)
    obtain ⟨t',n,H4,rfl,os,bare,un,hok,sm,hn,hdx,hfre,he4⟩:=zpat
    have hloc:e ≠ X.env.locals:=fun z=>by
      obtain ⟨m,⟨oo,_,_,ho,_⟩,_⟩:=I2.loc
      rw [← z] at ho
      exact absurd (hmd.new.symm.trans ho) (by simp)
    have hcel:∀ y c,X.env.cells.lookup y = some c → c ≠ e:=fun y c q z=>by
      obtain ⟨_,oo,ho,_⟩:=I2.cell y c q
      rw [z] at ho
      exact absurd (hmd.new.symm.trans ho) (by simp)
    have I4:Inv X pins σ H4 s4:=I3.call' os un hok bare fun b hb=>by
      rw [List.mem_singleton.mp hb]
      exact ⟨.inr (Nat.le_trans I2.sz hsz),hloc,hcel,n3⟩
    refine ⟨rfl,I4.kIn _ _ e1,⟨_,_,_,he4,rfl⟩,kk pins s4 e n H4 I4 sm hn hdx ⟨⟨⟨_,_,he4,rfl,rfl,rfl,.inl rfl⟩,hfre,n2⟩,n3⟩⟩
noncomputable def raiseX (cls f:Str) (ρ:Rho) (d:Option PyData):Option OutX:=d.bind fun d=>match d with
  | .int i=>if i.natAbs.log2 < 1920 then some (.ex (excD cls [.str f,.int i]) ρ) else none
  | _=>none
theorem xx_raise1 {oI:Obj} {fa:Rho → Option PyData} (hc:X.calm = true) (hex:X.ex = []) (hg:Gl X x) (hm:X.mg x = some (.ref C)) (o:XOwn X.K x C fI) (lk:X.K.lookup fI = some oI) (hfc:oI.cls = .type "function") (hI:InitOk X.prog X.w X.K X.mg X.base k fI C f IntV) (hr:Room (k + 1) X.A) (ha:PV X O a fa)
    (hdb:autoParam ((x == ("__debug__":Str)) = false) L2.ad._auto_1) (he:autoParam (starEach [a] X.env = (false,eval a X.env) :: starEach [] X.env) L2.ar._auto_1) (hpl:autoParam ((backTo cpos (starEach [a] X.env)).any (·.1) = false) L2.ar._auto_1) :
    PSx X O (.Raise (some (.Call (.Name x np) [a] [] cpos)) none pos) (fun ρ=>raiseX x f ρ (fa ρ)):=(ps_raise1 hc hex hg hm o lk hfc hI hr ha hdb he hpl).imp fun D σ H zpat=>by
  obtain ⟨hid,H0,ρ,ow,out,E,hf,kk⟩:=zpat
  obtain ⟨d,g1,g2⟩:=bind_some hf
  refine ⟨hid,H0,ρ,ow,d,E,g1,fun v H1 s1 Dv=>?_⟩
  cases d with
  | int i=>
    dsimp only at g2
    split at g2
    case isFalse=>cases g2
    rename_i hlog
    cases g2
    obtain rfl:v = .int i:=by cases Dv; rfl
    refine ⟨⟨i,rfl,hlog⟩,fun pins s' e n H2 I2 sm hn hdx fl=>?_⟩
    have E2:=(E.mono s1).mono sm
    refine kk pins s' σ H2 ow e C (some n) I2 (del_mono (s1.trans sm) _) E2 fl ⟨x,[(f,.int i)],[.int i],rfl,o.ns,.inr ⟨n,rfl,?_⟩,.cons (.int i) .nil⟩
    rw [del_out ((E.mono s1).fresh hn)]
    exact hdx
  | _=>cases g2
end
end L2
namespace L2
open PySem PySem.Spec PyProof.Rows
variable [Reg]
noncomputable def XIn (P:Program) (w:World) (K:PySem.W.Frag) (mg:Str → Option Value) (base:Heap) (k:Nat) (x f:Str):Prop:=
  ∃ C fI oI,mg x = some (.ref C) ∧ XOwn K x C fI ∧ K.lookup fI = some oI ∧ oI.cls = .type "function" ∧ InitOk P w K mg base k fI C f IntV
theorem xx_raiseN {X:Cx} {O:Ow} {x f:Str} {np cpos pos:Pos} {a:Expr} {k:Nat} {fa:Rho → Option PyData} (hc:X.calm = true) (hex:X.ex = []) (hg:Gl X x) (G:XIn X.prog X.w X.K X.mg X.base k x f) (hr:Room (k + 1) X.A) (ha:PV X O a fa)
    (hdb:autoParam ((x == ("__debug__":Str)) = false) L2.ad._auto_1) (he:autoParam (starEach [a] X.env = (false,eval a X.env) :: starEach [] X.env) L2.ar._auto_1) (hpl:autoParam ((backTo cpos (starEach [a] X.env)).any (·.1) = false) L2.ar._auto_1) :
    PSx X O (.Raise (some (.Call (.Name x np) [a] [] cpos)) none pos) (fun ρ=>raiseX x f ρ (fa ρ)):=by
  obtain ⟨C,fI,oI,h1,h2,h3,h4,h5⟩:=G
  exact xx_raise1 hc hex hg h1 h2 h3 h4 h5 hr ha hdb he hpl
theorem int_len {a:Int} (h:a.natAbs.log2 < 1920):(Str.ofString (toString a)).length ≤ 10000:=by
  have e:=int_text_length_le (k:=1920) (by decide) h
  rw [PySem.ofString_length]; (clear h; omega)
theorem text2 {t1:Str} (h1:t1.length ≤ 10000) (e:Addr) (v:V) (H:Hp) (hG:IntV v H) (Q:VK) (q:∀ txt H',Same H H' → Q (.str txt) H'):tJoin2 (tC (.str t1)) (tFmt (tVar 1)) [some (.ref e),some v] H Q:=by
  obtain ⟨i,rfl,hi⟩:=hG
  exact ⟨t1,rfl,h1,.int i,rfl,i,rfl,hi,_,rfl,int_len hi,q _ H (Same.refl H)⟩
structure BaseK (K:PySem.W.Frag) (mg:Str → Option Value) (b:Str) (CP:Addr):Prop where
  mg:mg b = some (.ref CP)
  rd:PySem.W.readsIn K CP (.type "type") = true
  fc:PySem.W.findCls K (.ref CP) (.type "type") "__init__" = some (.val (.builtin "ValueError.__init__"))
  sp:PySem.W.specialIn K (.ref CP) "__getattribute__" = some (some (.builtin "type.__getattribute__"))
inductive XAt (K:PySem.W.Frag) (x b f:Str) (st:Stmt):Prop
  | mk (C fI CP:Addr) (fd:FuncData) (o:XOwn K x C fI) (F:Fun K "__init__" (x ++ ".__init__") st fI fd) (fn:PySem.W.isFn K (.ref fI) = true) (fl:FldIn K C f) (nb:PySem.W.nsIn K mainGlobals b = some (some (.ref CP))) (rd:PySem.W.readsIn K CP (.type "type") = true)
      (fc:PySem.W.findCls K (.ref CP) (.type "type") "__init__" = some (.val (.builtin "ValueError.__init__"))) (sp:PySem.W.specialIn K (.ref CP) "__getattribute__" = some (some (.builtin "type.__getattribute__"))):XAt K x b f st
theorem XAt.ok {P:Program} {w:World} {K:PySem.W.Frag} {mg:Str → Option Value} {h base:Heap} {x b f:Str} {st:Stmt} {k:Nat} (a:XAt K x b f st) (X:K.In h) (G:h.Ns mainGlobals mg)
    (q:∀ (C fI CP:Addr) (fd:FuncData),XOwn K x C fI → Fun K "__init__" (x ++ ".__init__") st fI fd → FldIn K C f → BaseK K mg b CP → InitOk P w K mg base k fI C f IntV):XIn P w K mg base k x f:=by
  obtain ⟨C,fI,CP,fd,o,F,fn,fl,nb,rd,fc,sp⟩:=a
  have F':=F
  obtain ⟨oc,od,kV,doc,pm,an,cdv,ct,osl,rfl,lk,hcd⟩:=F.ex
  have hfn:PySem.W.typeIn K (.ref fI) = some (.type "function"):=eq_of_beq fn
  have hoc:oc = .type "function":=by
    have:(K.lookup fI).map (·.cls) = some (.type "function"):=hfn
    rw [lk] at this
    exact Option.some.inj this
  exact ⟨C,fI,_,PySem.W.mg_of X G o.ns,o,lk,hoc,q C fI CP _ o F' fl ⟨PySem.W.mg_of X G nb,rd,fc,sp⟩⟩
end L2
namespace L2
open PySem PySem.Spec PyProof.Rows
variable [Reg]
section
variable {X:Cx} {O:Ow} {e:Expr} {pos:Pos}
end
end L2
namespace NW
open PySem PySem.Spec PyProof.Rows L2
noncomputable def top (i:Nat):Stmt:=PySem.Challenge.pw_nearposts_k44_farthest_first.main.body.getD i (.Pass ⟨0,0,0,0⟩)
noncomputable abbrev s_x_NoThing:Stmt:=(clsBody (top 12)).getD 0 (.Pass ⟨0,0,0,0⟩)
noncomputable abbrev s_l_digits:Stmt:=top 27
noncomputable abbrev s_l_table_by:Stmt:=top 28
noncomputable abbrev s_p_check_counts:Stmt:=top 19
noncomputable abbrev s_p_is_row_right:Stmt:=top 20
noncomputable abbrev s_p_check_numbers:Stmt:=top 21
noncomputable abbrev s_p_check_ways_round:Stmt:=top 22
noncomputable abbrev s_p_Ways:Stmt:=(clsBody (top 23)).getD 0 (.Pass ⟨0,0,0,0⟩)
noncomputable abbrev s_l_due:Stmt:=top 31
noncomputable abbrev s_p_check_many:Stmt:=top 16
noncomputable abbrev s_p_is_number_of:Stmt:=top 17
noncomputable abbrev s_p_farthest_first:Stmt:=top 24
noncomputable abbrev s_l_classes:Stmt:=top 29
noncomputable abbrev s_l_which:Stmt:=top 30
noncomputable abbrev s_l_whole:Stmt:=top 26
noncomputable abbrev s_l_right:Stmt:=top 32
noncomputable abbrev s_law:Stmt:=top 33
noncomputable def lamTab:List (Str × Lam):=[]
noncomputable instance:Reg:=⟨fun t=>lamTab.lookup t⟩
noncomputable def exNames:List Str:=["NoMany","NoThing"]
noncomputable def E_l_digits_0:Rho → Option PyData:=fun ρ=>bind2 ((ρ[1]?).join) ((ρ[0]?).join) ixD
noncomputable def L_l_digits_1:Rho → Option Out:=seqF (fun ρ=>setO 5 ρ (bind2 (bind2 (bind2 (bind2 ((ρ[5]?).join) ((ρ[5]?).join) mulD) ((ρ[3]?).join) addD) (bind2 (some (.int 7919)) ((ρ[7]?).join) mulD) addD) (some (.int 2147483629)) modD)) (seqF (fun ρ=>condO (testD (bind2 ((ρ[6]?).join) (some (.int 0)) gtD)) ((bind2 ((ρ[6]?).join) (some (.int 1000003)) modD).bind (appD 4 ρ)) ((bind2 (bind2 (bind2 ((ρ[5]?).join) ((ρ[5]?).join) mulD) (some (.int 2147483587)) modD) (some (.int 1000003)) modD).bind (appD 4 ρ))) (fun ρ=>setO 6 ρ (bind2 ((ρ[6]?).join) (some (.int 1000003)) fdivD)))
noncomputable def B_l_digits:Rho → Option Out:=seqF (fun ρ=>setO 3 ρ (((compO (setS 0) (fun _=>some true) E_l_digits_0 ((consD ((ρ[1]?).join) (consD ((consD ((consD ((ρ[0]?).join) (some [])).bind lenD) (consD (some (.int 63)) (some []))).bind minD) (consD ((ρ[2]?).join) (some [])))).bind rng3D) (frees 1 [0] ρ)).map .list).bind sumD)) (seqF (fun ρ=>setLO 4 ρ (shortL (some []))) (seqF (fun ρ=>setO 5 ρ (bind2 (bind2 (bind2 ((ρ[3]?).join) (some (.int 48271)) mulD) (some (.int 40503)) addD) (some (.int 2147483629)) modD)) (seqF (fun ρ=>setO 6 ρ (bind2 ((ρ[3]?).join) ((consD (bind2 ((ρ[3]?).join) (bind2 (some (.int 10)) (some (.int 18)) powD) geD) (some [])).bind intD) mulD)) (seqF (fun ρ=>forO (setS 7) L_l_digits_1 ((consD (some (.int 120)) (some [])).bind rng1D) ρ) (fun ρ=>(((((ρ[4]?).join).bind revD).filter lf.go).map .list).map .rt)))))
noncomputable def F_l_digits:List PyData → Option PyData:=runD 3 5 B_l_digits
noncomputable def L_l_table_by_0:Rho → Option Out:=fun ρ=>putP 6 (.lst (.lst .cl)) ρ (path1 ((ρ[7]?).join)) ((consD (bind2 (bind2 ((ρ[6]?).join) ((ρ[7]?).join) ixD) ((ρ[8]?).join) ixD) (consD (bind2 (bind2 (bind2 ((ρ[6]?).join) ((ρ[7]?).join) ixD) ((ρ[10]?).join) ixD) (bind2 (bind2 ((ρ[6]?).join) ((ρ[10]?).join) ixD) ((ρ[8]?).join) ixD) addD) (some []))).bind minD) ((ρ[8]?).join)
noncomputable def L_l_table_by_1:Rho → Option Out:=fun ρ=>forO (setS 8) L_l_table_by_0 ((consD ((ρ[3]?).join) (some [])).bind rng1D) ρ
noncomputable def L_l_table_by_2:Rho → Option Out:=fun ρ=>forO (setS 7) L_l_table_by_1 ((consD ((ρ[3]?).join) (some [])).bind rng1D) ρ
noncomputable def L_l_table_by_3:Rho → Option Out:=seqF (fun ρ=>setEff 9 ((opL mulD (opL modD (popD 0) (fun ρ=>(ρ[4]?).join)) (fun ρ=>(ρ[5]?).join)) ρ)) (seqF (fun ρ=>putP 6 (.lst (.lst .cl)) ρ (path1 ((ρ[7]?).join)) ((ρ[9]?).join) ((ρ[8]?).join)) (fun ρ=>putP 6 (.lst (.lst .cl)) ρ (path1 ((ρ[8]?).join)) ((ρ[9]?).join) ((ρ[7]?).join)))
noncomputable def L_l_table_by_4:Rho → Option Out:=fun ρ=>forO (setS 8) L_l_table_by_3 ((consD ((ρ[7]?).join) (some [])).bind rng1D) ρ
noncomputable def E_l_table_by_5:Rho → Option PyData:=fun ρ=>(repD (shortL (consD (some (.int 0)) (some []))) ((ρ[1]?).join)).map .list
noncomputable def B_l_table_by:Rho → Option Out:=seqI (fun ρ=>setEff 3 ((opR addD (fun ρ=>(ρ[1]?).join) (opL modD (popD 0) (fun ρ=>bind2 (bind2 ((ρ[2]?).join) ((ρ[1]?).join) subD) (some (.int 1)) addD))) ρ)) (seqI (fun ρ=>setEff 4 ((opR ixD (fun ρ=>(shortL (consD (some (.int 4)) (consD (some (.int 10)) (consD (some (.int 100)) (consD (bind2 (some (.int 10)) (some (.int 6)) powD) (some [])))))).map .list) (opL modD (popD 0) (fun ρ=>some (.int 4)))) ρ)) (seqI (fun ρ=>setEff 5 ((opR ixD (fun ρ=>(shortL (consD (some (.int 1)) (consD (some (.int 1)) (consD (some (.int 2)) (consD (bind2 (bind2 (some (.int 10)) (some (.int 30)) powD) (some (.int 7)) addD) (some [])))))).map .list) (opL modD (popD 0) (fun ρ=>some (.int 4)))) ρ)) (seqI (fun ρ=>setO 6 ρ (veilF [0,6] (fun ρ=>(compO (setS 0) (fun _=>some true) E_l_table_by_5 ((consD ((ρ[3]?).join) (some [])).bind rng1D) (frees 1 [3] ρ)).map .list) ρ)) (seqI (fun ρ=>forO (setS 7) L_l_table_by_4 ((consD ((ρ[3]?).join) (some [])).bind rng1D) ρ) (seqI (fun ρ=>forO (setS 10) L_l_table_by_2 ((consD ((ρ[3]?).join) (some [])).bind rng1D) ρ) (retI 0 (fun ρ=>(ρ[6]?).join)))))))
noncomputable def FI_l_table_by:List PyData → Option (PyData × List PyData):=runI 3 8 B_l_table_by
noncomputable def L_p_check_counts_0:Rho → Option Out:=fun ρ=>condO (testD (bind2 ((consD ((ρ[2]?).join) (some [])).bind lenD) ((consD ((ρ[0]?).join) (some [])).bind lenD) neD)) (none) (some (.nx ρ))
noncomputable def B_p_check_counts:Rho → Option Out:=seqF (fun ρ=>condO (testD (bind2 ((consD ((ρ[0]?).join) (some [])).bind lenD) (some (.int 0)) eqD)) (none) (some (.nx ρ))) (fun ρ=>forO (tupS 2 (consS (setS 1) (consS (setS 2) (nilS)))) L_p_check_counts_0 ((((ρ[0]?).join).bind tupD).map enumL) ρ)
noncomputable def F_p_check_counts:List PyData → Option PyData:=runD 1 2 B_p_check_counts
noncomputable def L_p_is_row_right_0:Rho → Option Out:=fun ρ=>condO (orB (testD (bind2 ((ρ[3]?).join) (some (.int 0)) ltD)) (testD (bind2 ((ρ[3]?).join) (bind2 (bind2 ((ρ[0]?).join) ((ρ[2]?).join) ixD) ((ρ[1]?).join) ixD) neD))) ((some (.bool false)).map .rt) (some (.nx ρ))
noncomputable def B_p_is_row_right:Rho → Option Out:=seqF (fun ρ=>condO (testD (bind2 (bind2 (bind2 ((ρ[0]?).join) ((ρ[1]?).join) ixD) ((ρ[1]?).join) ixD) (some (.int 0)) neD)) ((some (.bool false)).map .rt) (some (.nx ρ))) (seqF (fun ρ=>forO (tupS 2 (consS (setS 2) (consS (setS 3) (nilS)))) L_p_is_row_right_0 (((bind2 ((ρ[0]?).join) ((ρ[1]?).join) ixD).bind tupD).map enumL) ρ) (fun ρ=>(some (.bool true)).map .rt))
noncomputable def F_p_is_row_right:List PyData → Option PyData:=runD 2 2 B_p_is_row_right
noncomputable def L_p_check_numbers_0:Rho → Option Out:=fun ρ=>condO ((testD ((consD ((ρ[0]?).join) (consD ((ρ[1]?).join) (some []))).bind F_p_is_row_right)).map not) (none) (some (.nx ρ))
noncomputable def B_p_check_numbers:Rho → Option Out:=fun ρ=>forO (setS 1) L_p_check_numbers_0 ((consD ((consD ((ρ[0]?).join) (some [])).bind lenD) (some [])).bind rng1D) ρ
noncomputable def F_p_check_numbers:List PyData → Option PyData:=runD 1 1 B_p_check_numbers
noncomputable def L_p_check_ways_round_0:Rho → Option Out:=fun ρ=>condO (testD (bind2 (bind2 ((ρ[2]?).join) ((ρ[5]?).join) ixD) (bind2 ((ρ[4]?).join) ((ρ[6]?).join) addD) gtD)) (none) (some (.nx ρ))
noncomputable def L_p_check_ways_round_1:Rho → Option Out:=fun ρ=>forO (tupS 2 (consS (setS 5) (consS (setS 6) (nilS)))) L_p_check_ways_round_0 (((bind2 ((ρ[0]?).join) ((ρ[3]?).join) ixD).bind tupD).map enumL) ρ
noncomputable def L_p_check_ways_round_2:Rho → Option Out:=fun ρ=>forO (tupS 2 (consS (setS 3) (consS (setS 4) (nilS)))) L_p_check_ways_round_1 ((((ρ[2]?).join).bind tupD).map enumL) ρ
noncomputable def B_p_check_ways_round:Rho → Option Out:=fun ρ=>forO (tupS 2 (consS (setS 1) (consS (setS 2) (nilS)))) L_p_check_ways_round_2 ((((ρ[0]?).join).bind tupD).map enumL) ρ
noncomputable def F_p_check_ways_round:List PyData → Option PyData:=runD 1 6 B_p_check_ways_round
noncomputable def E_p_Ways_0:Rho → Option PyData:=fun ρ=>((ρ[0]?).join).bind tupleD
noncomputable def B_p_Ways:Rho → Option (PyData × PyData):=fun ρ=>((((compO (setS 0) (fun _=>some true) E_p_Ways_0 (((ρ[1]?).join).bind listD) (frees 1 [] ρ)).map .list).bind tupleD).map fun d=>ρ.set 2 (some d)).bind (fun ρ=>(((consD ((ρ[2]?).join) (some [])).bind F_p_check_counts).map fun _=>ρ).bind (fun ρ=>(((consD ((ρ[2]?).join) (some [])).bind F_p_check_numbers).map fun _=>ρ).bind (fun ρ=>(((consD ((ρ[2]?).join) (some [])).bind F_p_check_ways_round).map fun _=>ρ).bind (twoF (fun ρ=>(consD ((ρ[2]?).join) (some [])).bind lenD) 2))))
noncomputable def FN_p_Ways:List PyData → Option (PyData × PyData):=runN 2 1 B_p_Ways
noncomputable def E_l_due_0:Rho → Option PyData:=fun ρ=>bind2 ((ρ[1]?).join) ((ρ[0]?).join) ixD
noncomputable def E_l_due_1:Rho → Option PyData:=fun ρ=>((compO (setS 0) (fun _=>some true) E_l_due_0 (((ρ[1]?).join).bind listD) (frees 1 [0] ρ)).map .list).bind minLD
noncomputable def I_l_due_2:Rho → Option Bool:=fun ρ=>testD (bind2 (bind2 ((ρ[1]?).join) ((ρ[0]?).join) ixD) (((ρ[1]?).join).bind maxLD) eqD)
noncomputable def E_l_due_3:Rho → Option PyData:=fun ρ=>(ρ[0]?).join
noncomputable def L_l_due_4:Rho → Option Out:=seqF (fun ρ=>setO 5 ρ (((compO (setS 0) (fun _=>some true) E_l_due_1 (((ρ[0]?).join).bind listD) (frees 1 [3] ρ)).filter lf.go).map .list)) (fun ρ=>condO (andB (testD (bind2 ((consD ((ρ[3]?).join) (some [])).bind lenD) ((ρ[1]?).join) ltD)) (testD (bind2 (((ρ[5]?).join).bind maxLD) (some (.int 0)) gtD))) ((((compO (setS 0) I_l_due_2 E_l_due_3 ((consD ((consD ((ρ[0]?).join) (some [])).bind lenD) (some [])).bind rng1D) (frees 1 [5] ρ)).map .list).bind minLD).bind (appD 3 ρ)) (some (.nx ρ)))
noncomputable def B_l_due:Rho → Option Out:=seqF (fun ρ=>setLO 3 ρ (shortL (consD ((ρ[2]?).join) (some [])))) (seqF (fun ρ=>forO (setS 4) L_l_due_4 ((consD ((consD ((ρ[0]?).join) (some [])).bind lenD) (some [])).bind rng1D) ρ) (fun ρ=>((ρ[3]?).join).map .rt))
noncomputable def F_l_due:List PyData → Option PyData:=runD 3 3 B_l_due
noncomputable def BX_p_check_many:Rho → Option OutX:=fun ρ=>condO (testD (bind2 ((ρ[0]?).join) (some (.int 1)) ltD)) (some (.ex (excD "NoMany" []) ρ)) (some (.nx ρ))
noncomputable def FX_p_check_many:List PyData → Option RX:=runX 1 0 BX_p_check_many
noncomputable def B_p_is_number_of:Rho → Option Out:=fun ρ=>(chainD (some (.int 0)) ((ρ[1]?).join) leD ltD ((consD ((ρ[0]?).join) (some [])).bind lenD)).map .rt
noncomputable def F_p_is_number_of:List PyData → Option PyData:=runD 2 0 B_p_is_number_of
noncomputable def E_p_farthest_first_0:Rho → Option PyData:=fun ρ=>(consD ((ρ[0]?).join) (consD ((ρ[1]?).join) (some []))).bind minD
noncomputable def W_p_farthest_first_1:Rho → Option Bool:=fun ρ=>andB (testD (bind2 ((consD ((ρ[3]?).join) (some [])).bind lenD) ((ρ[1]?).join) ltD)) (testD (bind2 (((ρ[4]?).join).bind maxLD) (some (.int 0)) gtD))
noncomputable def L_p_farthest_first_2:Rho → Option Out:=seqF (fun ρ=>setO 5 ρ (bind2 ((ρ[4]?).join) (((ρ[4]?).join).bind maxLD) indexD)) (seqF (fun ρ=>((ρ[5]?).join).bind (appD 3 ρ)) (fun ρ=>setO 4 ρ (((compO (tupS 2 (consS (setS 0) (consS (setS 1) (nilS)))) (fun _=>some true) E_p_farthest_first_0 (zipO (((ρ[4]?).join).bind listD) (((bind2 (((ρ[0]?).join).bind (fldD "Ways" "rows")) ((ρ[5]?).join) ixD).filter lf).bind tupD)) (frees 2 [] ρ)).filter lf.go).map .list)))
noncomputable def BX_p_farthest_first:Rho → Option OutX:=seqX (fun ρ=>dropX ρ ((consD ((ρ[1]?).join) (some [])).bind FX_p_check_many)) (seqX (fun ρ=>condO ((testD ((consD (((ρ[0]?).join).bind (fldD "Ways" "rows")) (consD ((ρ[2]?).join) (some []))).bind F_p_is_number_of)).map not) (raiseX "NoThing" "thing" ρ ((ρ[2]?).join)) (some (.nx ρ))) (fun ρ=>((seqF (fun ρ=>setLO 3 ρ (shortL (consD ((ρ[2]?).join) (some [])))) (seqF (fun ρ=>setO 4 ρ ((((bind2 (((ρ[0]?).join).bind (fldD "Ways" "rows")) ((ρ[2]?).join) ixD).bind seqD).filter lf.go).map .list)) (seqF (fun ρ=>whileD W_p_farthest_first_1 L_p_farthest_first_2 ((fun ρ=>64) ρ) ρ) (fun ρ=>((ρ[3]?).join).map .rt)))) ρ).map Out.x))
noncomputable def FX_p_farthest_first:List PyData → Option RX:=runX 3 3 BX_p_farthest_first
noncomputable def F_p_farthest_first:List PyData → Option PyData:=pureX FX_p_farthest_first
noncomputable def B_l_classes:Rho → Option Out:=seqF (fun ρ=>setO 1 ρ ((shortL (consD (((ρ[0]?).join).bind (isC exNames "NoMany")) (consD (((ρ[0]?).join).bind (isC exNames "NoPosts")) (consD (((ρ[0]?).join).bind (isC exNames "NoReach")) (consD (((ρ[0]?).join).bind (isC exNames "NoRing")) (some [])))))).map .list)) (seqF (fun ρ=>setO 1 ρ ((catL ((ρ[1]?).join) ((shortL (consD (((ρ[0]?).join).bind (isC exNames "NoLine")) (consD (((ρ[0]?).join).bind (isC exNames "NoWord")) (consD (((ρ[0]?).join).bind (isC exNames "NoFolk")) (some []))))).map .list)).map .list)) (seqF (fun ρ=>setO 1 ρ ((catL ((ρ[1]?).join) ((shortL (consD (((ρ[0]?).join).bind (isC exNames "NoPost")) (consD (((ρ[0]?).join).bind (isC exNames "NoTable")) (consD (((ρ[0]?).join).bind (isC exNames "NoWay")) (some []))))).map .list)).map .list)) (fun ρ=>((catL ((ρ[1]?).join) ((shortL (consD (((ρ[0]?).join).bind (isC exNames "NoThing")) (consD (((ρ[0]?).join).bind (isC exNames "NoText")) (consD (((ρ[0]?).join).bind (isC exNames "NoName")) (some []))))).map .list)).map .list).map .rt)))
noncomputable def F_l_classes:List PyData → Option PyData:=runD 1 1 B_l_classes
noncomputable def B_l_which:Rho → Option Out:=seqF (fun ρ=>condO (orB ((testD (((ρ[0]?).join).bind (isC exNames "ValueError"))).map not) (testD (bind2 (bind2 ((consD ((ρ[0]?).join) (some [])).bind F_l_classes) (some (.bool true)) countD) (some (.int 1)) neD))) (((some (.int 1)).bind negD).map .rt) (some (.nx ρ))) (fun ρ=>(bind2 ((consD ((ρ[0]?).join) (some [])).bind F_l_classes) (some (.bool true)) indexD).map .rt)
noncomputable def F_l_which:List PyData → Option PyData:=runD 1 0 B_l_which
noncomputable def B_l_whole:Rho → Option Out:=fun ρ=>(andV (((ρ[0]?).join).bind (isD "int")) (notV (((ρ[0]?).join).bind (isD "bool")))).map .rt
noncomputable def F_l_whole:List PyData → Option PyData:=runD 1 0 B_l_whole
noncomputable def H_l_right_0:Rho → Option Out:=fun ρ=>setO 4 ρ ((ρ[6]?).join)
noncomputable def I_l_right_1:Rho → Option Bool:=fun ρ=>(testD ((consD ((ρ[0]?).join) (some [])).bind F_l_whole)).map not
noncomputable def E_l_right_2:Rho → Option PyData:=fun ρ=>(ρ[0]?).join
noncomputable def B_l_right:Rho → Option Out:=seqF (fun ρ=>setO 4 ρ (some .none)) (seqF (fun ρ=>setO 5 ρ (some .none)) (seqF (fun ρ=>tryF 6 exNames H_l_right_0 (setX 5 ρ ((consD ((ρ[1]?).join) (consD ((ρ[2]?).join) (consD ((ρ[3]?).join) (some [])))).bind FX_p_farthest_first))) (seqF (fun ρ=>condO (testD (bind2 ((ρ[2]?).join) (some (.int 1)) ltD)) ((bind2 ((consD ((ρ[4]?).join) (some [])).bind F_l_which) (some (.int 0)) eqD).map .rt) (some (.nx ρ))) (seqF (fun ρ=>condO (orB (testD (bind2 ((ρ[3]?).join) (some (.int 0)) ltD)) (testD (bind2 ((ρ[3]?).join) ((consD ((ρ[0]?).join) (some [])).bind lenD) geD))) ((andV (bind2 ((consD ((ρ[4]?).join) (some [])).bind F_l_which) (some (.int 10)) eqD) (andV ((consD (((ρ[4]?).join).bind (fldXD exNames "thing")) (some [])).bind F_l_whole) (bind2 (((ρ[4]?).join).bind (fldXD exNames "thing")) ((ρ[3]?).join) eqD))).map .rt) (some (.nx ρ))) (seqF (fun ρ=>condO (orB (testD (bind2 ((ρ[4]?).join) (some .none) isntNoneD)) (orB ((testD (((ρ[5]?).join).bind (isD "list"))).map not) (testD (bind2 ((compO (setS 0) I_l_right_1 E_l_right_2 (((ρ[5]?).join).bind listD) (frees 1 [] ρ)).map .list) ((shortL (some [])).map .list) neD)))) ((some (.bool false)).map .rt) (some (.nx ρ))) (seqF (fun ρ=>setO 7 ρ ((consD ((ρ[0]?).join) (consD ((ρ[2]?).join) (consD ((ρ[3]?).join) (some [])))).bind F_l_due)) (seqF (fun ρ=>condO (testD (bind2 ((ρ[5]?).join) ((ρ[7]?).join) neD)) ((some (.bool false)).map .rt) (some (.nx ρ))) (seqF (fun ρ=>clrP 5 (.lst .cl) ρ (some [])) (fun ρ=>(bind2 ((consD ((ρ[1]?).join) (consD ((ρ[2]?).join) (consD ((ρ[3]?).join) (some [])))).bind F_p_farthest_first) ((ρ[7]?).join) eqD).map .rt)))))))))
noncomputable def F_l_right:List PyData → Option PyData:=runD 4 4 B_l_right
noncomputable def E_law_0:Rho → Option PyData:=fun ρ=>(((ρ[0]?).join).bind seqD).map .list
noncomputable def L_law_1:Rho → Option Out:=seqF (fun ρ=>setEff 6 ((popD 4) ρ)) (seqF (fun ρ=>setO 7 ρ ((shortL (consD (bind2 (bind2 (bind2 ((ρ[6]?).join) (some (.int 8)) fdivD) (some (.int 15)) modD) (some (.int 1)) subD) (consD (bind2 (bind2 (bind2 ((ρ[6]?).join) (some (.int 8)) fdivD) (some (.int 5)) modD) (some (.int 1)) addD) (consD (bind2 (bind2 (some (.int 10)) (some (.int 29)) powD) ((ρ[6]?).join) addD) (consD ((bind2 (some (.int 10)) (some (.int 29)) powD).bind negD) (some [])))))).map .list)) (seqF (fun ρ=>setO 8 ρ ((bind2 ((ρ[7]?).join) (bind2 ((shortL (consD (some (.int 0)) (consD (some (.int 1)) (consD (some (.int 0)) (consD (some (.int 1)) (consD (some (.int 0)) (consD (some (.int 1)) (consD (some (.int 2)) (consD (some (.int 3)) (some [])))))))))).map .list) (bind2 ((ρ[6]?).join) (some (.int 8)) modD) ixD) ixD).filter lf)) (seqF (fun ρ=>setEff 6 ((popD 4) ρ)) (seqF (fun ρ=>setO 9 ρ (bind2 (bind2 ((ρ[6]?).join) (some (.int 4)) fdivD) ((consD ((ρ[2]?).join) (some [])).bind lenD) modD)) (seqF (fun ρ=>condO (testD (bind2 (bind2 ((ρ[6]?).join) (some (.int 4)) modD) (some (.int 1)) eqD)) (setO 9 ρ ((bind2 ((shortL (consD ((consD ((ρ[2]?).join) (some [])).bind lenD) (consD ((some (.int 1)).bind negD) (consD (bind2 (bind2 (some (.int 10)) (some (.int 29)) powD) ((ρ[6]?).join) addD) (consD (bind2 ((bind2 (some (.int 10)) (some (.int 29)) powD).bind negD) ((ρ[6]?).join) subD) (some [])))))).map .list) (bind2 (bind2 ((ρ[6]?).join) (some (.int 4)) fdivD) (some (.int 4)) modD) ixD).filter lf)) (some (.nx ρ))) (fun ρ=>condO ((testD ((consD ((ρ[2]?).join) (consD ((ρ[3]?).join) (consD ((ρ[8]?).join) (consD ((ρ[9]?).join) (some []))))).bind F_l_right)).map not) ((some (.bool false)).map .rt) (some (.nx ρ))))))))
noncomputable def E_law_2:Rho → Option PyData:=fun ρ=>(((ρ[0]?).join).bind seqD).map .list
noncomputable def B_law:Rho → Option Out:=seqF (fun ρ=>setO 1 ρ ((consD ((ρ[0]?).join) (consD (some (.int 0)) (consD (some (.int 2)) (some [])))).bind F_l_digits)) (seqF (fun ρ=>setEff 2 ((callIr 1 FI_l_table_by (fun ρ=>consD (some (.int 1)) (consD (some (.int 10)) (some [])))) ρ)) (seqF (fun ρ=>setO 3 ρ (newD "Ways" "count" "rows" FN_p_Ways (consD ((compO (setS 0) (fun _=>some true) E_law_0 (((ρ[2]?).join).bind listD) (frees 1 [] ρ)).map .list) (some [])))) (seqF (fun ρ=>setO 4 ρ ((consD ((ρ[0]?).join) (consD (some (.int 1)) (consD (some (.int 2)) (some [])))).bind F_l_digits)) (seqF (fun ρ=>forO (setS 5) L_law_1 ((consD (some (.int 6)) (some [])).bind rng1D) ρ) (fun ρ=>(bind2 ((compO (setS 0) (fun _=>some true) E_law_2 ((((ρ[3]?).join).bind (fldD "Ways" "rows")).bind tupD) (frees 1 [] ρ)).map .list) ((ρ[2]?).join) eqD).map .rt)))))
noncomputable def F_law:List PyData → Option PyData:=runD 1 9 B_law
end NW
namespace NW
open PySem PySem.Spec PyProof.Rows L2
theorem eqv_ints2:∀ xs ys:List Int,PyData.eqvAll (xs.map PyData.int) (ys.map PyData.int) = decide (xs = ys)
  | [],[]=>rfl
  | [],y :: r=>by simp [PyData.eqvAll]
  | x :: r,[]=>by simp [PyData.eqvAll]
  | x :: r,y :: s=>by
    rw [List.map_cons,List.map_cons,PyData.eqvAll,eqv_ints2 r s]
    simp [PyData.eqv]
    by_cases h:x = y <;> by_cases h2:r = s <;> simp [h,h2]
theorem lay_ints:∀ xs:List Int,PyData.canLayAll0 (xs.map PyData.int) = true ∧ PyData.depthAll (xs.map PyData.int) ≤ 1
  | []=>⟨rfl,by simp [PyData.depthAll]⟩
  | x :: r=>by
    obtain ⟨h1,h2⟩:=lay_ints r
    refine ⟨by rw [List.map_cons,PyData.canLayAll0,h1]; rfl,?_⟩
    rw [List.map_cons,PyData.depthAll]
    simp only [PyData.depth]
    omega
theorem shaped_ints (xs:List Int):SeqAt.shaped (.list (xs.map PyData.int)) = true:=by
  obtain ⟨h1,h2⟩:=lay_ints xs
  simp [SeqAt.shaped,PyData.canLay0,PyData.depth,h1]
  omega
theorem eqD_ints (xs ys:List Int):eqD (.list (xs.map .int)) (.list (ys.map .int)) = some (.bool (decide (xs = ys))):=by
  simp only [eqD,shaped_ints,Bool.and_self,if_true,PyData.eqv,eqv_ints2]
noncomputable def encR (r:List Int):PyData:=.list (r.map .int)
noncomputable def encRR (rs:List (List Int)):PyData:=.list (rs.map encR)
theorem eqv_rows:∀ xs ys:List (List Int),PyData.eqvAll (xs.map encR) (ys.map encR) = decide (xs = ys)
  | [],[]=>rfl
  | [],y :: r=>by simp [PyData.eqvAll]
  | x :: r,[]=>by simp [PyData.eqvAll]
  | x :: r,y :: s=>by
    rw [List.map_cons,List.map_cons,PyData.eqvAll,eqv_rows r s]
    simp only [encR,PyData.eqv,eqv_ints2]
    by_cases h:x = y <;> by_cases h2:r = s <;> simp [h,h2]
theorem lay_rows:∀ xs:List (List Int),PyData.canLayAll0 (xs.map encR) = true ∧ PyData.depthAll (xs.map encR) ≤ 2
  | []=>⟨rfl,by simp [PyData.depthAll]⟩
  | x :: r=>by
    obtain ⟨h1,h2⟩:=lay_rows r
    obtain ⟨h3,h4⟩:=lay_ints x
    refine ⟨by rw [List.map_cons,PyData.canLayAll0,h1,encR,PyData.canLay0,h3]; rfl,?_⟩
    rw [List.map_cons,PyData.depthAll]
    simp only [PyData.depth,encR]
    omega
theorem shaped_rows (xs:List (List Int)):SeqAt.shaped (encRR xs) = true:=by
  obtain ⟨h1,h2⟩:=lay_rows xs
  simp [SeqAt.shaped,encRR,PyData.canLay0,PyData.depth,h1]
  omega
theorem eqD_rows (xs ys:List (List Int)):eqD (encRR xs) (encRR ys) = some (.bool (decide (xs = ys))):=by
  simp only [eqD,shaped_rows,Bool.and_self,if_true]
  simp only [encRR,PyData.eqv,eqv_rows]
theorem lf_zs:∀ zs:List Int,lf.go (zs.map PyData.int) = true
  | []=>rfl
  | z :: r=>by rw [List.map_cons,lf.go,lf_zs r]; rfl
theorem mulD_s2 {a b:Int} (hb:b.natAbs < 2 ^ 63):mulD (.int a) (.int b) = some (.int (a * b)):=by
  have:isS b = true:=decide_eq_true hb
  simp [mulD,int2C,intO,this]
theorem mulD_s1 {a b:Int} (ha:a.natAbs < 2 ^ 63):mulD (.int a) (.int b) = some (.int (a * b)):=by
  have:isS a = true:=decide_eq_true ha
  simp [mulD,int2C,intO,this]
theorem rng3_ok {i j:Int} (h1:i.natAbs < 2 ^ 60) (h2:j.natAbs < 2 ^ 60):rng3D [.int i,.int j,.int 2] = some (rngL2 i ((j - i + 1) / 2).toNat):=by
  refine (show (if (decide (i.natAbs < 2 ^ 60) && (decide (j.natAbs < 2 ^ 60) && decide ((2:Int) = 2))) = true then some (rngL2 i ((j - i + 1) / 2).toNat) else none) = _ from if_pos ?_)
  rw [decide_eq_true h1,decide_eq_true h2]
  rfl
theorem seqF_nx {F G:Rho → Option Out} {ρ ρ':Rho} (h:F ρ = some (.nx ρ')):seqF F G ρ = G ρ':=by
  unfold seqF
  rw [h]
  rfl
theorem forD_tr {S:PyData → Rho → Option Rho} {F:Rho → Option Out} {α:Type} (P:Nat → α → Prop) (l:Nat → α → (Nat → Option PyData) → Rho) (ds:List PyData) (x0:α) (t0:Nat → Option PyData) (h0:P 0 x0)
    (step:∀ i d x t,ds[i]? = some d → P i x → ∃ x' t',P (i + 1) x' ∧ (S d (l i x t)).bind F = some (.nx (l (i + 1) x' t'))) :
    ∃ x t,P ds.length x ∧ forD S F ds (l 0 x0 t0) = some (.nx (l ds.length x t)):=by
  obtain ⟨ρ',e,x,t,h1,h2⟩:=forD_inv (S:=S) (F:=F) (fun k ρ=>∃ x t,P k x ∧ ρ = l k x t) ds 0 _ ⟨x0,t0,h0,rfl⟩ (by
    rintro i d ρ hd ⟨x,t,h1,rfl⟩
    rw [Nat.zero_add] at h1 ⊢
    obtain ⟨x',t',h2,h3⟩:=step i d x t hd h1
    obtain ⟨ρ1,h4,h5⟩:=bind_some h3
    exact ⟨ρ1,_,h4,h5,x',t',h2,rfl⟩)
  rw [Nat.zero_add] at h1 h2
  exact ⟨x,t,h1,by rw [e,h2]⟩
theorem rl_len (n:Nat):(rngL 0 n).length = n:=by unfold rngL; rw [List.length_map,List.length_range]
theorem forD_rng {k:Nat} {F:Rho → Option Out} {α:Type} (P:Nat → α → Prop) (l:Nat → α → (Nat → Option PyData) → Rho) (n:Nat) (x0:α) (t0:Nat → Option PyData) (h0:P 0 x0)
    (step:∀ i x t,i < n → P i x → ∃ x' t',P (i + 1) x' ∧ F ((l i x t).set k (some (.int (i:Nat)))) = some (.nx (l (i + 1) x' t'))) :
    ∃ x t,P n x ∧ forD (setS k) F (rngL 0 n) (l 0 x0 t0) = some (.nx (l n x t)):=by
  have h:=forD_tr (S:=setS k) (F:=F) P l (rngL 0 n) x0 t0 h0 fun i d x t hd hx=>by
    obtain ⟨hi,rfl⟩:=rngL_get hd
    exact step i x t hi hx
  rw [rl_len] at h
  exact h
theorem forD_en {a b:Nat} {F:Rho → Option Out} (l:(Nat → Option PyData) → Rho) (xs:List PyData) (t0:Nat → Option PyData)
    (step:∀ i e t,xs[i]? = some e → ∃ t',F (((l t).set a (some (.int (i:Nat)))).set b (some e)) = some (.nx (l t'))) :
    ∃ t,forD (tupS 2 (consS (setS a) (consS (setS b) nilS))) F (enumL xs) (l t0) = some (.nx (l t)):=by
  obtain ⟨_,t,_,h⟩:=forD_tr (S:=tupS 2 (consS (setS a) (consS (setS b) nilS))) (F:=F) (α:=Unit) (fun _ _=>True) (fun _ _ t=>l t) (enumL xs) () t0 trivial fun i d x t hd _=>by
    obtain ⟨e,h1,rfl⟩:=enumL_get hd
    obtain ⟨t',h2⟩:=step i e t h1
    exact ⟨(),t',trivial,h2⟩
  exact ⟨t,h⟩
noncomputable abbrev tr2 (a b:Option PyData):Nat → Option PyData:=fun j=>[a,b].getD j none
noncomputable def dgOk (ds:List Int):Prop:=∀ d ∈ ds,0 ≤ d ∧ d < 1000003
theorem unit_eq (ns:List Int) (a:Nat) (hl:ns.length ≤ 63) (ha:a ≤ 1) :
    ∃ S:Int,((compO (setS 0) (fun _=>some true) E_l_digits_0 (rng3D [.int (a:Nat),.int (if (63:Int) < (ns.length:Nat) then 63 else (ns.length:Nat)),.int 2]) [none,some (.list (ns.map .int))]).map .list).bind sumD = some (.int S):=by
  have hm:(if (63:Int) < (ns.length:Nat) then 63 else ((ns.length:Nat):Int)) = (ns.length:Nat):=if_neg (by (clear ha; omega))
  rw [hm,rng3_ok (by (clear hm hl; omega)) (by (clear hm ha; omega))]
  have hlt:∀ i,i < ((((ns.length:Nat):Int) - (a:Nat) + 1) / 2).toNat → a + 2 * i < ns.length:=fun i hi=>by clear hm; (clear ha hl; omega)
  have hn:((((ns.length:Nat):Int) - (a:Nat) + 1) / 2).toNat ≤ 1000:=by clear hm hlt; (clear ha; omega)
  generalize ((((ns.length:Nat):Int) - (a:Nat) + 1) / 2).toNat = n at hlt hn
  refine ⟨((List.range n).map fun i=>ns.getD (a + 2 * i) 0).sum,?_⟩
  rw [compO_s (show (rngL2 (a:Nat) n).length ≤ 1000 by unfold rngL2; rw [List.length_map,List.length_range]; exact hn),show rngL2 (a:Nat) n = (List.range n).map (fun i:Nat=>PyData.int ((a:Nat) + (i:Nat) * 2)) from rfl,compD_map (S:=setS 0) (fe:=E_l_digits_0) (fun i:Nat=>PyData.int ((a:Nat) + (i:Nat) * 2)) PyData.int (fun i:Nat=>ns.getD (a + 2 * i) 0) (fun ρ=>∃ c,ρ = [c,some (.list (ns.map .int))]) (fun i=>a + 2 * i < ns.length) (fun i ρ hi ⟨c,e⟩=>⟨[some (.int ((a:Nat) + (i:Nat) * 2)),some (.list (ns.map .int))],by rw [e]; rfl,⟨_,rfl⟩,by
    show atI (ns.map PyData.int) _ = _
    rw [show (((a:Nat):Int) + (i:Nat) * 2) = ((a + 2 * i:Nat):Int) by (clear hi hn hlt hm ha hl; omega)]
    refine atI_nat ?_
    rw [List.getElem?_map,List.getElem?_eq_getElem hi,List.getD_eq_getElem?_getD,List.getElem?_eq_getElem hi]
    rfl⟩) (List.range n) [none,some (.list (ns.map .int))] ⟨_,rfl⟩ (fun i hi=>hlt i (List.mem_range.mp hi))]
  show (intsO _).map _ = _
  rw [intsO_map]
  rfl
noncomputable def nxF (S first:Int) (k:Nat):Int:=(first * first + S + 7919 * (k:Nat)) % 2147483629
noncomputable def nxD (rest f:Int):Int:=if 0 < rest then rest % 1000003 else f * f % 2147483587 % 1000003
theorem nxF_ok (S first:Int) (k:Nat):0 ≤ nxF S first k ∧ nxF S first k < 2147483629:=⟨Int.emod_nonneg _ (by decide),Int.emod_lt_of_pos _ (by decide)⟩
theorem nxD_ok (rest f:Int):0 ≤ nxD rest f ∧ nxD rest f < 1000003:=by
  unfold nxD
  split
  · exact ⟨Int.emod_nonneg _ (by decide),Int.emod_lt_of_pos _ (by decide)⟩
  · exact ⟨Int.emod_nonneg _ (by decide),Int.emod_lt_of_pos _ (by decide)⟩
theorem abs_small {f:Int} (h:0 ≤ f ∧ f < 2147483629):f.natAbs < 2 ^ 63:=by omega
theorem dig_step (s a p:Option PyData) (S first rest:Int) (ds:List Int) (k:Nat) (hf:0 ≤ first ∧ first < 2147483629) (hl:ds.length < 900) :
    L_l_digits_1 [s,a,p,some (.int S),some (.list (ds.map .int)),some (.int first),some (.int rest),some (.int (k:Nat))] = some (.nx [s,a,p,some (.int S),some (.list ((ds ++ [nxD rest (nxF S first k)]).map .int)),some (.int (nxF S first k)),some (.int (rest / 1000003)),some (.int (k:Nat))]):=by
  have ap:∀ (d:Int) (x5 x6:Option PyData),appD 4 [s,a,p,some (.int S),some (.list (ds.map .int)),x5,x6,some (.int (k:Nat))] (.int d) = some (.nx [s,a,p,some (.int S),some (.list ((ds ++ [d]).map .int)),x5,x6,some (.int (k:Nat))]):=fun d x5 x6=>by
    show (if decide ((ds.map PyData.int).length < 1000) = true then some (Out.nx [s,a,p,some (.int S),some (.list (ds.map PyData.int ++ [.int d])),x5,x6,some (.int (k:Nat))]) else none) = _
    rw [if_pos (decide_eq_true (by rw [List.length_map]; (clear hf; omega))),List.map_append]
    rfl
  unfold L_l_digits_1
  rw [seqF_nx (ρ':=[s,a,p,some (.int S),some (.list (ds.map .int)),some (.int (nxF S first k)),some (.int rest),some (.int (k:Nat))]) ?a1]
  case a1=>
    show setO 5 _ (bind2 (bind2 (bind2 (mulD (.int first) (.int first)) (some (.int S)) addD) (mulD (.int 7919) (.int (k:Nat))) addD) (some (.int 2147483629)) modD) = _
    rw [mulD_s1 (abs_small hf),mulD_s1 (by decide)]
    exact congrArg (setO 5 _) (modD_ok (b:=2147483629) (by decide))
  rw [seqF_nx (ρ':=[s,a,p,some (.int S),some (.list ((ds ++ [nxD rest (nxF S first k)]).map .int)),some (.int (nxF S first k)),some (.int rest),some (.int (k:Nat))]) ?a2]
  case a2=>
    show condO (some (decide (0 < rest))) ((modD (.int rest) (.int 1000003)).bind (appD 4 _)) ((bind2 (bind2 (mulD (.int (nxF S first k)) (.int (nxF S first k))) (some (.int 2147483587)) modD) (some (.int 1000003)) modD).bind (appD 4 _)) = _
    unfold nxD
    by_cases h:0 < rest
    · rw [decide_eq_true h,if_pos h,modD_ok (by decide)]
      exact ap _ _ _
    · rw [decide_eq_false h,if_neg h]
      show (bind2 (bind2 (mulD (.int (nxF S first k)) (.int (nxF S first k))) (some (.int 2147483587)) modD) (some (.int 1000003)) modD).bind (appD 4 _) = _
      rw [mulD_s1 (abs_small (nxF_ok S first k)),bind2_ss,modD_ok (by decide),bind2_ss,modD_ok (by decide)]
      exact ap _ _ _
  show setO 6 _ (fdivD (.int rest) (.int 1000003)) = _
  rw [fdivD_ok (by decide) rfl]
  rfl
theorem digits_eq (ns:List Int) (a:Nat) (hl:ns.length ≤ 63) (ha:a ≤ 1):∃ ds:List Int,ds.length = 120 ∧ dgOk ds ∧ F_l_digits [.list (ns.map .int),.int (a:Nat),.int 2] = some (.list (ds.map .int)):=by
  obtain ⟨S,eS⟩:=unit_eq ns a hl ha
  obtain ⟨x,t,h,e⟩:=forD_rng (k:=7) (F:=L_l_digits_1) (α:=List Int × Int × Int) (fun i x=>x.1.length = i ∧ dgOk x.1 ∧ (0 ≤ x.2.1 ∧ x.2.1 < 2147483629)) (fun _ x t=>[some (.list (ns.map .int)),some (.int (a:Nat)),some (.int 2),some (.int S),some (.list (x.1.map .int)),some (.int x.2.1),some (.int x.2.2),t 0])
    120 ([],(S * 48271 + 40503) % 2147483629,S * (if (10 ^ 18:Int) ≤ S then 1 else 0)) (fun _=>none) ⟨rfl,fun d hd=>absurd hd List.not_mem_nil,Int.emod_nonneg _ (by decide),Int.emod_lt_of_pos _ (by decide)⟩ fun i x t hi h=>
      ⟨(x.1 ++ [nxD x.2.2 (nxF S x.2.1 i)],nxF S x.2.1 i,x.2.2 / 1000003),fun _=>some (.int (i:Nat)),⟨by rw [List.length_append,h.1]; rfl,fun y hy=>(List.mem_append.mp hy).elim (h.2.1 y) fun z=>List.mem_singleton.mp z ▸ nxD_ok _ _,nxF_ok _ _ _⟩,dig_step _ _ _ S x.2.1 x.2.2 x.1 i h.2.2 (by rw [h.1]; (clear h eS ha hl; omega))⟩
  refine ⟨x.1.reverse,by rw [List.length_reverse,h.1],fun d hd=>h.2.1 d (List.mem_reverse.mp hd),?_⟩
  have q:B_l_digits [some (.list (ns.map .int)),some (.int (a:Nat)),some (.int 2),none,none,none,none,none] = some (.rt (.list (x.1.reverse.map .int))):=by
    unfold B_l_digits
    rw [seqF_nx (ρ':=[some (.list (ns.map .int)),some (.int (a:Nat)),some (.int 2),some (.int S),none,none,none,none]) ?s1]
    case s1=>
      show setO 3 _ (((compO (setS 0) (fun _=>some true) E_l_digits_0 (rng3D [.int (a:Nat),.int (if (63:Int) < ((ns.map PyData.int).length:Nat) then 63 else ((ns.map PyData.int).length:Nat)),.int 2]) [none,some (.list (ns.map .int))]).map .list).bind sumD) = _
      rw [List.length_map,eS]
      rfl
    rw [seqF_nx (ρ':=[some (.list (ns.map .int)),some (.int (a:Nat)),some (.int 2),some (.int S),some (.list []),none,none,none]) rfl]
    rw [seqF_nx (ρ':=[some (.list (ns.map .int)),some (.int (a:Nat)),some (.int 2),some (.int S),some (.list []),some (.int ((S * 48271 + 40503) % 2147483629)),none,none]) ?s3]
    case s3=>
      show setO 5 _ (bind2 (bind2 (mulD (.int S) (.int 48271)) (some (.int 40503)) addD) (some (.int 2147483629)) modD) = _
      rw [mulD_s2 (by decide)]
      exact congrArg (setO 5 _) (modD_ok (b:=2147483629) (by decide))
    rw [seqF_nx (ρ':=[some (.list (ns.map .int)),some (.int (a:Nat)),some (.int 2),some (.int S),some (.list []),some (.int ((S * 48271 + 40503) % 2147483629)),some (.int (S * (if (10 ^ 18:Int) ≤ S then 1 else 0))),none]) ?s4]
    case s4=>
      show setO 6 _ (mulD (.int S) (.int (if decide ((10 ^ 18:Int) ≤ S) = true then 1 else 0))) = _
      rw [mulD_s2 (by split <;> decide)]
      by_cases h:(10 ^ 18:Int) ≤ S
      · rw [decide_eq_true h,if_pos h]; rfl
      · rw [decide_eq_false h,if_neg h]; rfl
    rw [seqF_nx (ρ':=[some (.list (ns.map .int)),some (.int (a:Nat)),some (.int 2),some (.int S),some (.list (x.1.map .int)),some (.int x.2.1),some (.int x.2.2),t 0]) ?s5]
    case s5=>exact e
    show ((((some (x.1.map PyData.int).reverse).filter lf.go).map PyData.list).map Out.rt) = _
    rw [← List.map_reverse,filt (lf_zs _)]
    rfl
  show outD (B_l_digits [some (.list (ns.map .int)),some (.int (a:Nat)),some (.int 2),none,none,none,none,none]) = _
  rw [q]
  rfl
noncomputable def mkT (n:Nat) (T:Nat → Nat → Int):List (List Int):=(List.range n).map fun i=>(List.range n).map fun j=>T i j
noncomputable abbrev eT (n:Nat) (T:Nat → Nat → Int):PyData:=encRR (mkT n T)
noncomputable def updT (T:Nat → Nat → Int) (i j:Nat) (v:Int):Nat → Nat → Int:=fun a b=>if a = i ∧ b = j then v else T a b
theorem updT_at (T:Nat → Nat → Int) (i j:Nat) (v:Int):updT T i j v i j = v:=if_pos ⟨rfl,rfl⟩
theorem updT_ne {T:Nat → Nat → Int} {i j a b:Nat} {v:Int} (h:¬(a = i ∧ b = j)):updT T i j v a b = T a b:=if_neg h
theorem mkT_congr {n:Nat} {T U:Nat → Nat → Int} (h:∀ a b,a < n → b < n → T a b = U a b):mkT n T = mkT n U:=by
  unfold mkT
  refine List.map_congr_left fun i hi=>List.map_congr_left fun j hj=>h i j (List.mem_range.mp hi) (List.mem_range.mp hj)
theorem mkT_len (n:Nat) (T:Nat → Nat → Int):(mkT n T).length = n:=by unfold mkT; rw [List.length_map,List.length_range]
theorem mkT_get {n i:Nat} (T:Nat → Nat → Int) (h:i < n):(mkT n T)[i]? = some ((List.range n).map fun j=>T i j):=by
  unfold mkT
  rw [List.getElem?_map,List.getElem?_range h]
  rfl
theorem row_get {n j:Nat} (f:Nat → Int) (h:j < n):(((List.range n).map f).map PyData.int)[j]? = some (.int (f j)):=by
  rw [List.getElem?_map,List.getElem?_map,List.getElem?_range h]
  rfl
theorem ix_row {n i:Nat} (T:Nat → Nat → Int) (h:i < n):ixD (eT n T) (.int (i:Nat)) = some (encR ((List.range n).map fun j=>T i j)):=by
  rw [eT,encRR,ixD]
  refine atI_nat ?_
  rw [List.getElem?_map,mkT_get T h]
  rfl
theorem ix_cell {n j:Nat} (f:Nat → Int) (h:j < n):ixD (encR ((List.range n).map f)) (.int (j:Nat)) = some (.int (f j)):=by
  rw [encR,ixD]
  exact atI_nat (row_get f h)
theorem ixN_nat {n i:Nat} (h:i < n):ixN n ((i:Nat):Int) = some i:=by
  unfold ixN
  rw [if_pos (by (clear h; omega))]
  simp [h]
theorem mkT_set {n i j:Nat} (hi:i < n) (hj:j < n) (T:Nat → Nat → Int) (v:Int):(mkT n T).set i (((List.range n).map fun b=>T i b).set j v) = mkT n (updT T i j v):=by
  unfold mkT
  apply List.ext_getElem
  · simp
  · intro a h1 h2
    rw [List.length_set,List.length_map,List.length_range] at h1
    rw [List.getElem_set]
    by_cases e:i = a
    · subst e
      rw [if_pos rfl,List.getElem_map,List.getElem_range]
      apply List.ext_getElem
      · simp
      · intro b h3 h4
        rw [List.getElem_set,List.getElem_map,List.getElem_range,List.getElem_map,List.getElem_range]
        by_cases e2:j = b
        · subst e2
          rw [if_pos rfl,updT_at]
        · rw [if_neg e2,updT_ne fun z=>e2 z.2.symm]
    · rw [if_neg e,List.getElem_map,List.getElem_map,List.getElem_range]
      exact List.map_congr_left fun b _=>(updT_ne fun z=>e z.1.symm).symm
theorem rw_len (n:Nat) (f:Nat → Int):(((List.range n).map f).map PyData.int).length = n:=by rw [List.length_map,List.length_map,List.length_range]
theorem put_eq {n i j:Nat} (hi:i < n) (hj:j < n) (T:Nat → Nat → Int) (v:Int) (ρ:Rho) (s:Nat) (h:(ρ[s]?).join = some (eT n T)) :
    putP s (.lst (.lst .cl)) ρ (path1 (some (.int (i:Nat)))) (some (.int v)) (some (.int (j:Nat))) = some (.nx (ρ.set s (some (eT n (updT T i j v))))):=by
  have hl:ixN ((mkT n T).map encR).length ((i:Nat):Int) = some i:=by rw [List.length_map,mkT_len]; exact ixN_nat hi
  have g:((mkT n T).map encR)[i]? = some (encR ((List.range n).map fun j=>T i j)):=by rw [List.getElem?_map,mkT_get T hi]; rfl
  have rl:ixN (((List.range n).map fun j=>T i j).map PyData.int).length ((j:Nat):Int) = some j:=by rw [rw_len]; exact ixN_nat hj
  have ty:tyP (.lst (.lst .cl)) (eT n T) [((i:Nat):Int)] = true:=by
    show (((kidD ((mkT n T).map encR) ((i:Nat):Int)).map fun e=>(Ty.lst .cl,e)).any fun q=>tyP q.1 q.2 []) = true
    rw [kid_is hl g]
    rfl
  have gp:getP (eT n T) [((i:Nat):Int)] = some (((List.range n).map fun j=>T i j).map .int):=by
    show ((kidD ((mkT n T).map encR) ((i:Nat):Int)).bind fun d=>getP d []) = _
    rw [kid_is hl g]
    rfl
  have fin:setP (eT n T) [((i:Nat):Int)] ((((List.range n).map fun j=>T i j).map PyData.int).set j (.int v)) = eT n (updT T i j v):=by
    show PyData.list (chgL ((mkT n T).map encR) ((i:Nat):Int) _) = PyData.list _
    rw [chgL_is hl g,← mkT_set hi hj T v,List.map_set]
    unfold encR setP setL
    dsimp only
    rw [List.map_set]
  unfold putP
  rw [Option.bind_some]
  show ((some [((i:Nat):Int)]).bind _) = _
  rw [Option.bind_some,h,Option.bind_some,if_pos ty,gp,Option.bind_some]
  show ((some ((j:Nat):Int)).bind _) = _
  rw [Option.bind_some,rl,Option.map_some,fin]
structure Good (n:Nat) (T:Nat → Nat → Int):Prop where
  dg:∀ i,i < n → T i i = 0
  nn:∀ i j,i < n → j < n → 0 ≤ T i j
  sy:∀ i j,i < n → j < n → T i j = T j i
theorem updT_at2 {T:Nat → Nat → Int} {i j:Nat} {v:Int} (h:j < i):updT (updT T i j v) j i v i j = v:=(updT_ne fun z=>Nat.ne_of_lt h z.2).trans (updT_at T i j v)
theorem Good.upd2 {n i j:Nat} {T:Nat → Nat → Int} {v:Int} (G:Good n T) (hij:j < i) (hv:0 ≤ v):Good n (updT (updT T i j v) j i v):=by
  refine ⟨fun a ha=>?_,fun a b ha hb=>?_,fun a b ha hb=>?_⟩
  · rw [updT_ne fun z=>Nat.ne_of_lt hij (z.1.symm.trans z.2),updT_ne fun z=>Nat.ne_of_lt hij (z.2.symm.trans z.1)]
    exact G.dg a ha
  · unfold updT
    split
    · exact hv
    · split
      · exact hv
      · exact G.nn a b ha hb
  · by_cases h1:a = i ∧ b = j
    · rw [h1.1,h1.2,updT_at2 hij,updT_at]
    · by_cases h2:a = j ∧ b = i
      · rw [h2.1,h2.2,updT_at2 hij,updT_at]
      · rw [updT_ne h2,updT_ne h1,updT_ne fun z=>h1 ⟨z.2,z.1⟩,updT_ne fun z=>h2 ⟨z.2,z.1⟩]
        exact G.sy a b ha hb
theorem pop_i {i:Nat} {ps:List Int} (h:ps ≠ []) {ρ:Rho} (hρ:(ρ[i]?).join = some (.list (ps.map .int))):popD i ρ = some (.int (ps.getLast h),ρ.set i (some (.list (ps.dropLast.map .int)))):=by
  unfold popD
  rw [hρ,Option.bind_some]
  show (some (ps.map PyData.int)).bind _ = _
  rw [Option.bind_some,List.getLast?_map,List.getLast?_eq_some_getLast h,Option.map_some,Option.map_some,List.map_dropLast]
theorem mod_small {x size:Int} (h:0 ≤ x ∧ x < 1000003) (hs:0 < size):(x % size).natAbs < 2 ^ 63:=by
  have b1:0 ≤ x % size:=Int.emod_nonneg _ (by (clear h; omega))
  have b2:x % size ≤ x:=by
    have h3:=Int.mul_ediv_add_emod x size
    have h4:0 ≤ size * (x / size):=Int.mul_nonneg (by (clear h3 b1 h; omega)) (Int.ediv_nonneg (by (clear h3 b1 hs; omega)) (by (clear h3 b1 h; omega)))
    (clear b1 hs h; omega)
  (clear hs; omega)
theorem dg_drop {ps:List Int} (h:dgOk ps):dgOk ps.dropLast:=fun d hd=>h d (List.dropLast_subset _ hd)
theorem dg_last {ps:List Int} (h:ps ≠ []) (hd:dgOk ps):0 ≤ ps.getLast h ∧ ps.getLast h < 1000003:=hd _ (List.getLast_mem h)
theorem fill_in {n:Nat} {ps:List Int} (h:ps ≠ []) (hd:dgOk ps) {size times:Int} (hs:0 < size) {T:Nat → Nat → Int} {i j:Nat} (hi:i < n) (hj:j < i) (c1 c2 c3 c9 c10:Option PyData) :
    L_l_table_by_3 [some (.list (ps.map .int)),c1,c2,c3,some (.int size),some (.int times),some (eT n T),some (.int (i:Nat)),some (.int (j:Nat)),c9,c10] = some (.nx [some (.list (ps.dropLast.map .int)),c1,c2,c3,some (.int size),some (.int times),some (eT n (updT (updT T i j (ps.getLast h % size * times)) j i (ps.getLast h % size * times))),some (.int (i:Nat)),some (.int (j:Nat)),some (.int (ps.getLast h % size * times)),c10]):=by
  unfold L_l_table_by_3
  rw [seqF_nx (ρ':=[some (.list (ps.dropLast.map .int)),c1,c2,c3,some (.int size),some (.int times),some (eT n T),some (.int (i:Nat)),some (.int (j:Nat)),some (.int (ps.getLast h % size * times)),c10]) ?a1]
  case a1=>
    unfold opL
    rw [pop_i h rfl]
    show setEff 9 (((modD (.int (ps.getLast h)) (.int size)).map fun d=>(d,[some (.list (ps.dropLast.map .int)),c1,c2,c3,some (.int size),some (.int times),some (eT n T),some (.int (i:Nat)),some (.int (j:Nat)),c9,c10])).bind _) = _
    rw [modD_ok hs]
    show setEff 9 ((mulD (.int (ps.getLast h % size)) (.int times)).map _) = _
    rw [mulD_s1 (mod_small (dg_last h hd) hs)]
    rfl
  generalize ps.getLast h % size * times = v
  have hjn:j < n:=Nat.lt_trans hj hi
  rw [seqF_nx (put_eq hi hjn T v [some (.list (ps.dropLast.map .int)),c1,c2,c3,some (.int size),some (.int times),some (eT n T),some (.int (i:Nat)),some (.int (j:Nat)),some (.int v),c10] 6 rfl)]
  exact put_eq hjn hi (updT T i j v) v [some (.list (ps.dropLast.map .int)),c1,c2,c3,some (.int size),some (.int times),some (eT n (updT T i j v)),some (.int (i:Nat)),some (.int (j:Nat)),some (.int v),c10] 6 rfl
noncomputable def tri:Nat → Nat
  | 0=>0
  | i + 1=>tri i + i
theorem tri_le:∀ i,i ≤ 12 → tri i ≤ 66:=by decide
theorem rng1_n {n:Nat} (hn:n ≤ 12):rng1D [.int (n:Nat)] = some (rngL 0 n):=(rng1_ok (n:=(n:Nat)) (Int.natCast_nonneg n) (by omega)).trans (by rw [Int.toNat_natCast])
theorem fill_eq {n:Nat} (hn:n ≤ 12) {ps:List Int} (hl:ps.length = 117) (hd:dgOk ps) {size times:Int} (hs:0 < size) (ht:0 ≤ times) {T:Nat → Nat → Int} (G:Good n T) (c1 c2 c3:Option PyData) :
    ∃ (x:List Int × (Nat → Nat → Int)) (t:Nat → Option PyData),Good n x.2 ∧ forD (setS 7) L_l_table_by_4 (rngL 0 n) [some (.list (ps.map .int)),c1,c2,c3,some (.int size),some (.int times),some (eT n T),none,none,none,none] = some (.nx [some (.list (x.1.map .int)),c1,c2,c3,some (.int size),some (.int times),some (eT n x.2),t 0,t 1,t 2,none]):=by
  obtain ⟨x,t,h,e⟩:=forD_rng (k:=7) (F:=L_l_table_by_4) (α:=List Int × (Nat → Nat → Int)) (fun i x=>x.1.length + tri i = 117 ∧ dgOk x.1 ∧ Good n x.2) (fun _ x t=>[some (.list (x.1.map .int)),c1,c2,c3,some (.int size),some (.int times),some (eT n x.2),t 0,t 1,t 2,none]) n (ps,T) (fun _=>none) ⟨hl,hd,G⟩ fun i x t hi h=>by
    have ti:tri i + i ≤ 66:=tri_le (i + 1) (by (clear h ht hs hl; omega))
    obtain ⟨y,u,g,e⟩:=forD_rng (k:=8) (F:=L_l_table_by_3) (α:=List Int × (Nat → Nat → Int)) (fun j x=>x.1.length + (tri i + j) = 117 ∧ dgOk x.1 ∧ Good n x.2) (fun _ x t=>[some (.list (x.1.map .int)),c1,c2,c3,some (.int size),some (.int times),some (eT n x.2),some (.int (i:Nat)),t 0,t 1,none]) i x (fun j=>t (j + 1)) h fun j y u hj g=>by
      have hlen:=g.1
      have hne:y.1 ≠ []:=List.ne_nil_of_length_pos (by (clear hlen h hi ht hs hl hn; omega))
      exact ⟨(y.1.dropLast,_),tr2 (some (.int (j:Nat))) (some (.int (y.1.getLast hne % size * times))),⟨by rw [List.length_dropLast]; (clear hlen h hi ht hs hl hn; omega),dg_drop g.2.1,g.2.2.upd2 hj (Int.mul_nonneg (Int.emod_nonneg _ (Int.ne_of_gt hs)) ht)⟩,fill_in hne g.2.1 hs hi hj c1 c2 c3 (u 1) none⟩
    refine ⟨y,fun j=>[some (.int (i:Nat)),u 0,u 1].getD j none,g,?_⟩
    show forO (setS 8) L_l_table_by_3 (rng1D [.int (i:Nat)]) _ = _
    rw [rng1_n (by (clear g ti h ht hs hl; omega))]
    exact e
  exact ⟨x,t,h.2.2,e⟩
noncomputable def nxT (D:Nat → Nat → Int) (k:Nat):Nat → Nat → Int:=fun a b=>if D a k + D k b < D a b then D a k + D k b else D a b
noncomputable def midT (D:Nat → Nat → Int) (k i j:Nat):Nat → Nat → Int:=fun a b=>if a < i ∨ (a = i ∧ b < j) then nxT D k a b else D a b
theorem nx_col {n:Nat} {D:Nat → Nat → Int} {k a:Nat} (G:Good n D) (hk:k < n):nxT D k a k = D a k:=by
  unfold nxT
  rw [G.dg k hk]
  split <;> (clear hk; omega)
theorem nx_row {n:Nat} {D:Nat → Nat → Int} {k b:Nat} (G:Good n D) (hk:k < n):nxT D k k b = D k b:=by
  unfold nxT
  rw [G.dg k hk]
  split <;> (clear hk; omega)
theorem mid_step {n:Nat} {D:Nat → Nat → Int} {k i j:Nat} (G:Good n D) (hk:k < n) :
    updT (midT D k i j) i j (if midT D k i j i k + midT D k i j k j < midT D k i j i j then midT D k i j i k + midT D k i j k j else midT D k i j i j) = midT D k i (j + 1):=by
  have e1:midT D k i j i j = D i j:=by unfold midT; rw [if_neg (by (clear hk; omega))]
  have e2:midT D k i j i k = D i k:=by
    unfold midT
    split
    · exact nx_col G hk
    · rfl
  have e3:midT D k i j k j = D k j:=by
    unfold midT
    split
    · exact nx_row G hk
    · rfl
  rw [e1,e2,e3]
  funext a b
  by_cases h:a = i ∧ b = j
  · obtain ⟨rfl,rfl⟩:=h
    rw [updT_at,show midT D k a (b + 1) a b = nxT D k a b from if_pos (.inr ⟨rfl,Nat.lt_succ_self _⟩)]
    rfl
  · rw [updT_ne h]
    unfold midT
    by_cases c:a < i ∨ (a = i ∧ b < j)
    · rw [if_pos c,if_pos (by (clear h e3 e2 e1 hk; omega))]
    · rw [if_neg c,if_neg (by (clear e3 e2 e1 hk; omega))]
theorem ways_in {n:Nat} {D:Nat → Nat → Int} {k i j:Nat} (G:Good n D) (hk:k < n) (hi:i < n) (hj:j < n) (c0 c1 c2 c3 c4 c5 c9:Option PyData) :
    L_l_table_by_0 [c0,c1,c2,c3,c4,c5,some (eT n (midT D k i j)),some (.int (i:Nat)),some (.int (j:Nat)),c9,some (.int (k:Nat))] = some (.nx [c0,c1,c2,c3,c4,c5,some (eT n (midT D k i (j + 1))),some (.int (i:Nat)),some (.int (j:Nat)),c9,some (.int (k:Nat))]):=by
  have p1:=put_eq hi hj (midT D k i j) (if midT D k i j i k + midT D k i j k j < midT D k i j i j then midT D k i j i k + midT D k i j k j else midT D k i j i j) [c0,c1,c2,c3,c4,c5,some (eT n (midT D k i j)),some (.int (i:Nat)),some (.int (j:Nat)),c9,some (.int (k:Nat))] 6 rfl
  rw [mid_step G hk] at p1
  show putP 6 (.lst (.lst .cl)) _ (path1 (some (.int (i:Nat)))) ((consD (bind2 (ixD (eT n (midT D k i j)) (.int (i:Nat))) (some (.int (j:Nat))) ixD) (consD (bind2 (bind2 (ixD (eT n (midT D k i j)) (.int (i:Nat))) (some (.int (k:Nat))) ixD) (bind2 (ixD (eT n (midT D k i j)) (.int (k:Nat))) (some (.int (j:Nat))) ixD) addD) (some []))).bind minD) (some (.int (j:Nat))) = _
  rw [ix_row _ hi,ix_row _ hk,bind2_ss,bind2_ss,bind2_ss,ix_cell _ hj,ix_cell _ hk,ix_cell _ hj]
  exact p1
theorem good_nx {n:Nat} {D:Nat → Nat → Int} {k:Nat} (G:Good n D) (hk:k < n):Good n (nxT D k):=by
  refine ⟨fun i hi=>?_,fun i j hi hj=>?_,fun i j hi hj=>?_⟩
  · have:=G.dg i hi
    have:=G.nn i k hi hk
    have:=G.nn k i hk hi
    unfold nxT
    split <;> (clear hi hk; omega)
  · have:=G.nn i j hi hj
    have:=G.nn i k hi hk
    have:=G.nn k j hk hj
    unfold nxT
    split <;> (clear hj hi hk; omega)
  · have:=G.sy i j hi hj
    have:=G.sy i k hi hk
    have:=G.sy k j hk hj
    unfold nxT
    split <;> split <;> (clear hj hi hk; omega)
noncomputable def Tri (n K:Nat) (D:Nat → Nat → Int):Prop:=∀ i j m,i < n → j < n → m < n → m < K → D i j ≤ D i m + D m j
theorem tri_nx {n K:Nat} {D:Nat → Nat → Int} (G:Good n D) (T:Tri n K D) (hK:K < n):Tri n (K + 1) (nxT D K):=by
  intro i j m hi hj hm hmK
  by_cases e:m = K
  · subst e
    rw [nx_col G hK,nx_row G hK]
    unfold nxT
    split <;> (clear hmK hK hm hj hi; omega)
  · have h1:=T i j m hi hj hm (by (clear hm hj hi hK; omega))
    have h2:=T i K m hi hK hm (by (clear h1 hm hj hi hK; omega))
    have h3:=T K j m hK hj hm (by (clear h2 h1 hm hj hi hK; omega))
    have h4:=G.nn K m hK hm
    have h5:=G.nn m K hm hK
    unfold nxT
    split <;> split <;> split <;> (clear e hmK hm hj hi hK; omega)
structure Metric (n:Nat) (T:Nat → Nat → Int):Prop where
  g:Good n T
  t:∀ i j m,i < n → j < n → m < n → T i j ≤ T i m + T m j
theorem mid_row {n:Nat} (D:Nat → Nat → Int) (k i:Nat):eT n (midT D k i n) = eT n (midT D k (i + 1) 0):=by
  show encRR _ = encRR _
  rw [mkT_congr fun a b ha hb=>?_]
  unfold midT
  by_cases c:a < i ∨ (a = i ∧ b < n)
  · rw [if_pos c,if_pos (by (clear hb ha; omega))]
  · rw [if_neg c,if_neg (by (clear ha; omega))]
theorem mid_end {n:Nat} (D:Nat → Nat → Int) (k:Nat):eT n (midT D k n 0) = eT n (nxT D k):=by
  exact congrArg encRR (mkT_congr fun a b ha hb=>if_pos (.inl ha))
theorem mid_zero (D:Nat → Nat → Int) (k:Nat):midT D k 0 0 = D:=funext fun a=>funext fun b=>if_neg fun z=>z.elim (Nat.not_lt_zero _) fun z=>Nat.not_lt_zero _ z.2
theorem ways_eq {n:Nat} (hn:n ≤ 12) {T:Nat → Nat → Int} (G:Good n T) (c0 c1 c2 c4 c5 c7 c8 c9:Option PyData) :
    ∃ (T':Nat → Nat → Int) (t:Nat → Option PyData),Metric n T' ∧ forD (setS 10) L_l_table_by_2 (rngL 0 n) [c0,c1,c2,some (.int (n:Nat)),c4,c5,some (eT n T),c7,c8,c9,none] = some (.nx [c0,c1,c2,some (.int (n:Nat)),c4,c5,some (eT n T'),t 0,t 1,c9,t 2]):=by
  obtain ⟨T',t,h,e⟩:=forD_rng (k:=10) (F:=L_l_table_by_2) (α:=Nat → Nat → Int) (fun k D=>Good n D ∧ Tri n k D) (fun _ D t=>[c0,c1,c2,some (.int (n:Nat)),c4,c5,some (eT n D),t 0,t 1,c9,t 2]) n T (fun j=>[c7,c8].getD j none) ⟨G,fun i j m _ _ _ h=>absurd h (Nat.not_lt_zero _)⟩ fun k D t hk h=>by
    obtain ⟨_,u,_,e⟩:=forD_rng (k:=7) (F:=L_l_table_by_1) (α:=Unit) (fun _ _=>True) (fun i _ t=>[c0,c1,c2,some (.int (n:Nat)),c4,c5,some (eT n (midT D k i 0)),t 0,t 1,c9,some (.int (k:Nat))]) n () t trivial fun i _ u hi _=>by
      obtain ⟨_,w,_,e⟩:=forD_rng (k:=8) (F:=L_l_table_by_0) (α:=Unit) (fun _ _=>True) (fun j _ t=>[c0,c1,c2,some (.int (n:Nat)),c4,c5,some (eT n (midT D k i j)),some (.int (i:Nat)),t 0,c9,some (.int (k:Nat))]) n () (fun _=>u 1) trivial fun j _ w hj _=>⟨(),fun _=>some (.int (j:Nat)),trivial,ways_in h.1 hk hi hj c0 c1 c2 (some (.int (n:Nat))) c4 c5 c9⟩
      refine ⟨(),tr2 (some (.int (i:Nat))) (w 0),trivial,?_⟩
      show forO (setS 8) L_l_table_by_0 (rng1D [.int (n:Nat)]) _ = some (.nx [c0,c1,c2,some (.int (n:Nat)),c4,c5,some (eT n (midT D k (i + 1) 0)),some (.int (i:Nat)),w 0,c9,some (.int (k:Nat))])
      rw [rng1_n hn,← mid_row]
      exact e
    refine ⟨nxT D k,fun j=>[u 0,u 1,some (.int (k:Nat))].getD j none,⟨good_nx h.1 hk,tri_nx h.1 h.2 hk⟩,?_⟩
    show forO (setS 7) L_l_table_by_1 (rng1D [.int (n:Nat)]) _ = some (.nx [c0,c1,c2,some (.int (n:Nat)),c4,c5,some (eT n (nxT D k)),u 0,u 1,c9,some (.int (k:Nat))])
    rw [rng1_n hn,← mid_end]
    rw [mid_zero] at e
    exact e
  exact ⟨T',t,⟨h.1,fun i j m hi hj hm=>h.2 i j m hi hj hm hm⟩,e⟩
theorem rep0 (n:Nat):(List.replicate n [PyData.int 0]).flatten = ((List.range n).map fun _=>(0:Int)).map .int:=by
  rw [List.flatten_replicate_singleton,List.map_map]
  symm
  rw [List.eq_replicate_iff]
  refine ⟨by rw [List.length_map,List.length_range],fun b hb=>?_⟩
  obtain ⟨_,_,rfl⟩:=List.mem_map.mp hb
  rfl
theorem zero_rows (n:Nat) (h:n ≤ 12) (x0 x1 x2 x4 x5 x6 x7 x8 x9 x10:Option PyData):veilF [0,6] (fun ρ=>(compO (setS 0) (fun _=>some true) E_l_table_by_5 ((consD ((ρ[3]?).join) (some [])).bind rng1D) (frees 1 [3] ρ)).map .list) [x0,x1,x2,some (.int (n:Nat)),x4,x5,x6,x7,x8,x9,x10] = some (eT n fun _ _=>0):=by
  show ((compO (setS 0) (fun _=>some true) E_l_table_by_5 (rng1D [.int (n:Nat)]) [none,some (.int (n:Nat))]).map PyData.list) = _
  rw [rng1_n h,compO_s (by rw [rl_len]; omega),show rngL 0 n = (List.range n).map (fun i:Nat=>PyData.int (0 + (i:Nat))) from rfl,compD_map (S:=setS 0) (fe:=E_l_table_by_5) (fun i:Nat=>PyData.int (0 + (i:Nat))) encR (fun _:Nat=>(List.range n).map fun _=>(0:Int)) (fun ρ=>∃ c,ρ = [c,some (.int (n:Nat))]) (fun _=>True) (fun i ρ _ ⟨c,e⟩=>⟨[some (.int (0 + (i:Nat))),some (.int (n:Nat))],by rw [e]; rfl,⟨_,rfl⟩,by
    show (if (decide (((n:Nat):Int).natAbs < 1000) && decide ([PyData.int 0].length * ((n:Nat):Int).toNat ≤ 1000)) = true then some (List.replicate ((n:Nat):Int).toNat [PyData.int 0]).flatten else none).map PyData.list = _
    rw [Int.toNat_natCast,Int.natAbs_natCast,decide_eq_true (by omega),decide_eq_true (by show 1 * n ≤ 1000; omega),if_pos (show (true && true) = true from rfl),rep0]
    rfl⟩) (List.range n) [none,some (.int (n:Nat))] ⟨_,rfl⟩ (fun _ _=>trivial)]
  rfl
theorem seqI_nx {F G:Rho → Option Out} {ρ ρ':Rho} (h:F ρ = some (.nx ρ')):seqI F G ρ = G ρ':=by
  unfold seqI
  rw [h]
  rfl
theorem pick (xs:List Int) {k:Int} (h0:0 ≤ k) (h:k < (xs.length:Nat)):∃ m ∈ xs,ixD (.list (xs.map .int)) (.int k) = some (.int m):=by
  obtain ⟨j,rfl⟩:=Int.eq_ofNat_of_zero_le h0
  have hj:j < xs.length:=Int.ofNat_lt.mp h
  exact ⟨xs[j],List.getElem_mem hj,atI_nat (by rw [List.getElem?_map,List.getElem?_eq_getElem hj]; rfl)⟩
theorem drop_ne {ps:List Int} {k:Nat} (h:ps.length = k + 1):ps ≠ [] ∧ ps.dropLast.length = k:=⟨List.ne_nil_of_length_pos (by omega),by rw [List.length_dropLast,h]; rfl⟩
theorem pop_mod {i:Nat} {ps:List Int} (h:ps ≠ []) {m:Int} (hm:0 < m) {g:Rho → Option PyData} {ρ:Rho} (hρ:(ρ[i]?).join = some (.list (ps.map .int))) (hg:g (ρ.set i (some (.list (ps.dropLast.map .int)))) = some (.int m)) :
    opL modD (popD i) g ρ = some (.int (ps.getLast h % m),ρ.set i (some (.list (ps.dropLast.map .int)))):=by
  unfold opL
  rw [pop_i h hρ,Option.bind_some]
  show (g (ρ.set i (some (.list (ps.dropLast.map .int))))).bind _ = _
  rw [hg,Option.bind_some,modD_ok hm]
  rfl
theorem table_eq {ps:List Int} (hl:ps.length = 120) (hd:dgOk ps) {most:Int} (h1:1 ≤ most) (h2:most ≤ 12) :
    ∃ (n:Nat) (T:Nat → Nat → Int) (rest:List PyData),(1 ≤ n ∧ ((n:Nat):Int) ≤ most) ∧ Metric n T ∧ FI_l_table_by [.list (ps.map .int),.int 1,.int most] = some (eT n T,rest):=by
  obtain ⟨ne1,l1⟩:=drop_ne hl
  obtain ⟨ne2,l2⟩:=drop_ne l1
  obtain ⟨ne3,l3⟩:=drop_ne l2
  have hm:0 < most - 1 + 1:=by (clear l3 l2 l1 h2 hl; omega)
  have e1:=pop_mod ne1 hm (i:=0) (g:=fun ρ=>bind2 (bind2 ((ρ[2]?).join) ((ρ[1]?).join) subD) (some (.int 1)) addD) (ρ:=[some (.list (ps.map .int)),some (.int 1),some (.int most),none,none,none,none,none,none,none,none]) rfl rfl
  have b1:=Int.emod_nonneg (ps.getLast ne1) (Int.ne_of_gt hm)
  have b2:=Int.emod_lt_of_pos (ps.getLast ne1) hm
  obtain ⟨n,hn⟩:∃ n:Nat,1 + ps.getLast ne1 % (most - 1 + 1) = ((n:Nat):Int):=Int.eq_ofNat_of_zero_le (by (clear b2 e1 hm l3 l2 l1 h2 h1 hl; omega))
  obtain ⟨size,ms,es⟩:=pick [4,10,100,10 ^ 6] (k:=ps.dropLast.getLast ne2 % 4) (Int.emod_nonneg _ (by decide)) (Int.emod_lt_of_pos _ (by decide))
  obtain ⟨times,mt,et⟩:=pick [1,1,2,10 ^ 30 + 7] (k:=ps.dropLast.dropLast.getLast ne3 % 4) (Int.emod_nonneg _ (by decide)) (Int.emod_lt_of_pos _ (by decide))
  have hs:0 < size:=(by decide:∀ x ∈ [(4:Int),10,100,10 ^ 6],0 < x) size ms
  have ht:0 ≤ times:=(by decide:∀ x ∈ [(1:Int),1,2,10 ^ 30 + 7],0 ≤ x) times mt
  have hn12:n ≤ 12:=by (clear ht hs b1 e1 hm l3 l2 l1 h1 hl; omega)
  have e2:=pop_mod ne2 (m:=4) (by decide) (i:=0) (g:=fun ρ=>some (.int 4)) (ρ:=[some (.list (ps.dropLast.map .int)),some (.int 1),some (.int most),some (.int (n:Nat)),none,none,none,none,none,none,none]) rfl rfl
  have e3:=pop_mod ne3 (m:=4) (by decide) (i:=0) (g:=fun ρ=>some (.int 4)) (ρ:=[some (.list (ps.dropLast.dropLast.map .int)),some (.int 1),some (.int most),some (.int (n:Nat)),some (.int size),none,none,none,none,none,none]) rfl rfl
  obtain ⟨x,t,G,e5⟩:=fill_eq (n:=n) hn12 l3 (dg_drop (dg_drop (dg_drop hd))) hs ht (T:=fun _ _=>0) ⟨fun _ _=>rfl,fun _ _ _ _=>Int.le_refl _,fun _ _ _ _=>rfl⟩ (some (.int 1)) (some (.int most)) (some (.int (n:Nat)))
  obtain ⟨T,u,M,e6⟩:=ways_eq (n:=n) hn12 G (some (.list (x.1.map .int))) (some (.int 1)) (some (.int most)) (some (.int size)) (some (.int times)) (t 0) (t 1) (t 2)
  refine ⟨n,T,x.1.map .int,⟨by (clear hn12 ht hs b2 e1 hm l3 l2 l1 h2 h1 hl; omega),by (clear hn12 ht hs b1 e1 hm l3 l2 l1 h2 h1 hl; omega)⟩,M,?_⟩
  have q:B_l_table_by [some (.list (ps.map .int)),some (.int 1),some (.int most),none,none,none,none,none,none,none,none] = some (.rt (.tuple [eT n T,.list (x.1.map .int)])):=by
    unfold B_l_table_by
    rw [seqI_nx (ρ':=[some (.list (ps.dropLast.map .int)),some (.int 1),some (.int most),some (.int (n:Nat)),none,none,none,none,none,none,none]) ?s1]
    case s1=>
      unfold opR
      rw [e1]
      show setEff 3 (some (.int (1 + ps.getLast ne1 % (most - 1 + 1)),_)) = _
      rw [hn]
      rfl
    rw [seqI_nx (ρ':=[some (.list (ps.dropLast.dropLast.map .int)),some (.int 1),some (.int most),some (.int (n:Nat)),some (.int size),none,none,none,none,none,none]) ?s2]
    case s2=>
      unfold opR
      rw [e2]
      exact congrArg (fun o:Option PyData=>setEff 4 (o.map fun e=>(e,([some (.list (ps.dropLast.map .int)),some (.int 1),some (.int most),some (.int (n:Nat)),none,none,none,none,none,none,none]:Rho).set 0 (some (.list (ps.dropLast.dropLast.map .int)))))) es
    rw [seqI_nx (ρ':=[some (.list (ps.dropLast.dropLast.dropLast.map .int)),some (.int 1),some (.int most),some (.int (n:Nat)),some (.int size),some (.int times),none,none,none,none,none]) ?s3]
    case s3=>
      unfold opR
      rw [e3]
      exact congrArg (fun o:Option PyData=>setEff 5 (o.map fun e=>(e,([some (.list (ps.dropLast.dropLast.map .int)),some (.int 1),some (.int most),some (.int (n:Nat)),some (.int size),none,none,none,none,none,none]:Rho).set 0 (some (.list (ps.dropLast.dropLast.dropLast.map .int)))))) et
    rw [seqI_nx (ρ':=[some (.list (ps.dropLast.dropLast.dropLast.map .int)),some (.int 1),some (.int most),some (.int (n:Nat)),some (.int size),some (.int times),some (eT n fun _ _=>0),none,none,none,none]) ?s4]
    case s4=>
      rw [zero_rows n hn12]
      rfl
    rw [seqI_nx (ρ':=[some (.list (x.1.map .int)),some (.int 1),some (.int most),some (.int (n:Nat)),some (.int size),some (.int times),some (eT n x.2),t 0,t 1,t 2,none]) ?s5]
    case s5=>
      show forO (setS 7) L_l_table_by_4 (rng1D [.int (n:Nat)]) _ = _
      rw [rng1_n hn12]
      exact e5
    rw [seqI_nx (ρ':=[some (.list (x.1.map .int)),some (.int 1),some (.int most),some (.int (n:Nat)),some (.int size),some (.int times),some (eT n T),u 0,u 1,t 2,u 2]) ?s6]
    case s6=>
      show forO (setS 10) L_l_table_by_2 (rng1D [.int (n:Nat)]) _ = _
      rw [rng1_n hn12]
      exact e6
    rfl
  show outI (B_l_table_by [some (.list (ps.map .int)),some (.int 1),some (.int most),none,none,none,none,none,none,none,none]) = _
  rw [q]
  rfl
noncomputable def encTr (r:List Int):PyData:=.tuple (r.map .int)
noncomputable def encTT (n:Nat) (T:Nat → Nat → Int):PyData:=.tuple ((mkT n T).map encTr)
theorem tt_get {n i:Nat} (T:Nat → Nat → Int) (h:i < n):((mkT n T).map encTr)[i]? = some (encTr ((List.range n).map fun j=>T i j)):=by
  rw [List.getElem?_map,mkT_get T h]; rfl
theorem tt_len (n:Nat) (T:Nat → Nat → Int):((mkT n T).map encTr).length = n:=by rw [List.length_map,mkT_len]
theorem tt_is {n i:Nat} {T:Nat → Nat → Int} {e:PyData} (h:((mkT n T).map encTr)[i]? = some e):i < n ∧ e = encTr ((List.range n).map fun j=>T i j):=by
  have hi:i < n:=by have:=(List.getElem?_eq_some_iff.mp h).1; rwa [tt_len] at this
  rw [tt_get T hi] at h
  exact ⟨hi,(Option.some.inj h).symm⟩
theorem tr_is {n i:Nat} {f:Nat → Int} {e:PyData} (h:(((List.range n).map f).map PyData.int)[i]? = some e):i < n ∧ e = .int (f i):=by
  have hi:i < n:=by have:=(List.getElem?_eq_some_iff.mp h).1; rwa [rw_len] at this
  rw [row_get f hi] at h
  exact ⟨hi,(Option.some.inj h).symm⟩
theorem ix_tt {n i:Nat} (T:Nat → Nat → Int) (h:i < n):ixD (encTT n T) (.int (i:Nat)) = some (encTr ((List.range n).map fun j=>T i j)):=atI_nat (tt_get T h)
theorem ix_tr {n j:Nat} (f:Nat → Int) (h:j < n):ixD (encTr ((List.range n).map f)) (.int (j:Nat)) = some (.int (f j)):=atI_nat (row_get f h)
theorem len_tt (n:Nat) (T:Nat → Nat → Int):lenD [encTT n T] = some (.int (n:Nat)):=by
  show some (PyData.int (((mkT n T).map encTr).length:Nat)) = _
  rw [tt_len]
theorem len_tr (n:Nat) (f:Nat → Int):lenD [encTr ((List.range n).map f)] = some (.int (n:Nat)):=by
  show some (PyData.int ((((List.range n).map f).map PyData.int).length:Nat)) = _
  rw [rw_len]
theorem tupD_tt (n:Nat) (T:Nat → Nat → Int):tupD (encTT n T) = some ((mkT n T).map encTr):=rfl
theorem tupD_tr (r:List Int):tupD (encTr r) = some (r.map .int):=rfl
theorem ne_false (r:Int):neD (.int r) (.int r) = some (.bool false):=by
  rw [neD_int]
  simp
theorem counts_eq {n:Nat} (T:Nat → Nat → Int) (h:1 ≤ n):F_p_check_counts [encTT n T] = some .none:=by
  obtain ⟨t,e⟩:=forD_en (a:=1) (b:=2) (F:=L_p_check_counts_0) (fun t=>[some (encTT n T),t 0,t 1]) ((mkT n T).map encTr) (fun _=>none) fun i d t hd=>by
    obtain ⟨hi,rfl⟩:=tt_is hd
    refine ⟨tr2 (some (.int (i:Nat))) (some (encTr ((List.range n).map fun j=>T i j))),?_⟩
    show condO (testD (bind2 (lenD [encTr ((List.range n).map fun j=>T i j)]) (lenD [encTT n T]) neD)) _ _ = _
    rw [len_tt,len_tr,bind2_ss,ne_false]
    rfl
  show outD (B_p_check_counts [some (encTT n T),none,none]) = _
  unfold B_p_check_counts
  rw [seqF_nx (ρ':=[some (encTT n T),none,none]) ?s1]
  case s1=>
    show condO (testD (bind2 (lenD [encTT n T]) (some (.int 0)) eqD)) _ _ = _
    rw [len_tt,bind2_ss,eqD_int,show (((n:Nat):Int) == 0) = false from beq_eq_false_iff_ne.mpr (by omega)]
    rfl
  show outD (forD (tupS 2 (consS (setS 1) (consS (setS 2) nilS))) L_p_check_counts_0 (enumL ((mkT n T).map encTr)) _) = _
  rw [e]
  rfl
theorem right_row {n i:Nat} {T:Nat → Nat → Int} (G:Good n T) (hi:i < n):F_p_is_row_right [encTT n T,.int (i:Nat)] = some (.bool true):=by
  obtain ⟨t,e⟩:=forD_en (a:=2) (b:=3) (F:=L_p_is_row_right_0) (fun t=>[some (encTT n T),some (.int (i:Nat)),t 0,t 1]) (((List.range n).map fun j=>T i j).map .int) (fun _=>none) fun p d t hd=>by
    obtain ⟨hp,rfl⟩:=tr_is hd
    refine ⟨tr2 (some (.int (p:Nat))) (some (.int (T i p))),?_⟩
    show condO (orB (testD (ltD (.int (T i p)) (.int 0))) (testD (bind2 (some (.int (T i p))) (bind2 (ixD (encTT n T) (.int (p:Nat))) (some (.int (i:Nat))) ixD) neD))) _ _ = _
    rw [ltD_ok,decide_eq_false (Int.not_lt.mpr (G.nn i p hi hp)),ix_tt T hp,bind2_ss,ix_tr _ hi,bind2_ss,← G.sy i p hi hp,ne_false]
    rfl
  show outD (B_p_is_row_right [some (encTT n T),some (.int (i:Nat)),none,none]) = _
  unfold B_p_is_row_right
  rw [seqF_nx (ρ':=[some (encTT n T),some (.int (i:Nat)),none,none]) ?s1]
  case s1=>
    show condO (testD (bind2 (bind2 (ixD (encTT n T) (.int (i:Nat))) (some (.int (i:Nat))) ixD) (some (.int 0)) neD)) _ _ = _
    rw [ix_tt T hi,bind2_ss,ix_tr _ hi,G.dg i hi,bind2_ss,ne_false]
    rfl
  rw [seqF_nx (ρ':=[some (encTT n T),some (.int (i:Nat)),t 0,t 1]) ?s2]
  case s2=>
    show forO (tupS 2 (consS (setS 2) (consS (setS 3) nilS))) L_p_is_row_right_0 (((ixD (encTT n T) (.int (i:Nat))).bind tupD).map enumL) _ = _
    rw [ix_tt T hi]
    exact e
  rfl
theorem numbers_ok {n:Nat} {T:Nat → Nat → Int} (G:Good n T) (hn:n ≤ 12):F_p_check_numbers [encTT n T] = some .none:=by
  obtain ⟨_,t,_,e⟩:=forD_rng (k:=1) (F:=L_p_check_numbers_0) (α:=Unit) (fun _ _=>True) (fun _ _ t=>[some (encTT n T),t 0]) n () (fun _=>none) trivial fun i _ t hi _=>by
    refine ⟨(),fun _=>some (.int (i:Nat)),trivial,?_⟩
    show condO ((testD (F_p_is_row_right [encTT n T,.int (i:Nat)])).map not) _ _ = _
    rw [right_row G hi]
    rfl
  show outD (forO (setS 1) L_p_check_numbers_0 ((consD (lenD [encTT n T]) (some [])).bind rng1D) _) = _
  rw [len_tt,consD_ss,Option.bind_some,rng1_n hn]
  exact congrArg outD e
theorem round_ok {n:Nat} {T:Nat → Nat → Int} (M:Metric n T):F_p_check_ways_round [encTT n T] = some .none:=by
  obtain ⟨t,e⟩:=forD_en (a:=1) (b:=2) (F:=L_p_check_ways_round_2) (fun t=>[some (encTT n T),t 0,t 1,t 2,t 3,t 4,t 5]) ((mkT n T).map encTr) (fun _=>none) fun i d t hd=>by
    obtain ⟨hi,rfl⟩:=tt_is hd
    obtain ⟨u,e⟩:=forD_en (a:=3) (b:=4) (F:=L_p_check_ways_round_1) (fun u=>[some (encTT n T),some (.int (i:Nat)),some (encTr ((List.range n).map fun j=>T i j)),u 0,u 1,u 2,u 3]) (((List.range n).map fun j=>T i j).map .int) (fun j=>t (j + 2)) fun j d u hd=>by
      obtain ⟨hj,rfl⟩:=tr_is hd
      obtain ⟨w,e⟩:=forD_en (a:=5) (b:=6) (F:=L_p_check_ways_round_0) (fun w=>[some (encTT n T),some (.int (i:Nat)),some (encTr ((List.range n).map fun j=>T i j)),some (.int (j:Nat)),some (.int (T i j)),w 0,w 1]) (((List.range n).map fun k=>T j k).map .int) (fun j=>u (j + 2)) fun k d w hd=>by
        obtain ⟨hk,rfl⟩:=tr_is hd
        refine ⟨tr2 (some (.int (k:Nat))) (some (.int (T j k))),?_⟩
        show condO (testD (bind2 (ixD (encTr ((List.range n).map fun j=>T i j)) (.int (k:Nat))) (some (.int (T i j + T j k))) gtD)) _ _ = _
        rw [ix_tr _ hk,bind2_ss,gtD_ok,decide_eq_false (Int.not_lt.mpr (M.t i k j hi hk hj))]
        rfl
      refine ⟨fun k=>[some (.int (j:Nat)),some (.int (T i j)),w 0,w 1].getD k none,?_⟩
      show forO (tupS 2 (consS (setS 5) (consS (setS 6) nilS))) L_p_check_ways_round_0 (((ixD (encTT n T) (.int (j:Nat))).bind tupD).map enumL) _ = _
      rw [ix_tt T hj]
      exact e
    refine ⟨fun k=>[some (.int (i:Nat)),some (encTr ((List.range n).map fun j=>T i j)),u 0,u 1,u 2,u 3].getD k none,?_⟩
    exact e
  exact congrArg outD e
noncomputable abbrev wObj (n:Nat) (T:Nat → Nat → Int):PyData:=objD "Ways" ["count","rows"] [.int (n:Nat),encTT n T]
theorem lf_tr:∀ rs:List (List Int),lf.go (rs.map encTr) = true
  | []=>rfl
  | r :: rs=>by
    rw [List.map_cons,lf.go,lf_tr rs,Bool.and_true]
    exact lf_zs r
theorem mkT_12 {n:Nat} (hn:n ≤ 12) (T:Nat → Nat → Int):((mkT n T).map encR).length ≤ 1000:=by rw [List.length_map,mkT_len]; omega
theorem new_eq {n:Nat} {T:Nat → Nat → Int} (M:Metric n T) (h1:1 ≤ n) (hn:n ≤ 12):newD "Ways" "count" "rows" FN_p_Ways (some [eT n T]) = some (wObj n T):=by
  have e:=compD_map (S:=setS 0) (fe:=E_p_Ways_0) encR encTr (fun r:List Int=>r) (fun ρ=>∃ c,ρ = [c]) (fun _=>True) (fun r ρ _ ⟨c,e⟩=>⟨[some (encR r)],by rw [e]; rfl,⟨_,rfl⟩,rfl⟩) (mkT n T) [none] ⟨_,rfl⟩ (fun _ _=>trivial)
  rw [List.map_id'] at e
  have q:B_p_Ways [none,some (eT n T),none] = some (.int (n:Nat),encTT n T):=by
    simp only [B_p_Ways]
    show (((((compO (setS 0) (fun _=>some true) E_p_Ways_0 (some ((mkT n T).map encR)) [none]).map PyData.list).bind tupleD).map fun d=>List.set [none,some (eT n T),none] 2 (some d)).bind _) = _
    rw [compO_s (mkT_12 hn T),e]
    show ((F_p_check_counts [encTT n T]).map fun _=>_).bind _ = _
    rw [counts_eq T h1,Option.map_some,Option.bind_some]
    show ((F_p_check_numbers [encTT n T]).map fun _=>_).bind _ = _
    rw [numbers_ok M.g hn,Option.map_some,Option.bind_some]
    show ((F_p_check_ways_round [encTT n T]).map fun _=>_).bind _ = _
    rw [round_ok M,Option.map_some,Option.bind_some]
    unfold twoF
    show ((lenD [encTT n T]).bind _) = _
    rw [len_tt]
    rfl
  have r:FN_p_Ways [eT n T] = some (.int (n:Nat),encTT n T):=by
    show ((B_p_Ways [none,some (eT n T),none]).bind fun r=>if (lf r.1 && lf r.2) = true then some r else none) = _
    rw [q,Option.bind_some]
    exact if_pos (show (true && lf.go ((mkT n T).map encTr)) = true by rw [lf_tr]; rfl)
  show ((FN_p_Ways [eT n T]).map _) = _
  rw [r]
  rfl
theorem fld_rows (a b:PyData):fldD "Ways" "rows" (objD "Ways" ["count","rows"] [a,b]) = some b:=by
  show (if ("Ways":Str) = "Ways" then lookD "rows" [.str "count",.str "rows"] [a,b] else none) = _
  rw [if_pos rfl]
  show (if ("count":Str) = "rows" then some a else (if ("rows":Str) = "rows" then some b else _)) = _
  rw [if_neg (by decide),if_pos rfl]
noncomputable def encN (e:List Nat):PyData:=.list (e.map fun x=>.int (x:Nat))
theorem encN_len (e:List Nat):(e.map fun x=>PyData.int (x:Nat)).length = e.length:=List.length_map _
theorem minL_is {ns:List Int} (h:ns ≠ []):∃ r,minLD (.list (ns.map .int)) = some (.int r) ∧ r ∈ ns ∧ ∀ x ∈ ns,r ≤ x:=by
  cases ns with
  | nil=>exact absurd rfl h
  | cons n r=>
    refine ⟨minI n r,?_,minI_is r n⟩
    show (intsO ((n :: r).map .int)).bind _ = _
    rw [intsO_map]
    rfl
theorem maxL_is {ns:List Int} (h:ns ≠ []):∃ r,maxLD (.list (ns.map .int)) = some (.int r) ∧ r ∈ ns ∧ ∀ x ∈ ns,x ≤ r:=by
  cases ns with
  | nil=>exact absurd rfl h
  | cons n r=>
    refine ⟨maxI n r,?_,maxI_is r n⟩
    show (intsO ((n :: r).map .int)).bind _ = _
    rw [intsO_map]
    rfl
theorem compD_filter {α:Type} {S:PyData → Rho → Option Rho} {ft:Rho → Option Bool} {fe:Rho → Option PyData} (ea:α → PyData) (p:α → Bool) (R:Rho → Prop) (ok:α → Prop)
    (hS:∀ x ρ,ok x → R ρ → ∃ ρ1,S (ea x) ρ = some ρ1 ∧ R ρ1 ∧ ft ρ1 = some (p x) ∧ fe ρ1 = some (ea x)):∀ (xs:List α) (ρ:Rho),R ρ → (∀ x ∈ xs,ok x) → compD S ft fe (xs.map ea) ρ = some ((xs.filter p).map ea)
  | [],ρ,_,_=>rfl
  | x :: r,ρ,h,ho=>by
    obtain ⟨ρ1,h1,h2,h3,h4⟩:=hS x ρ (ho x List.mem_cons_self) h
    have ih:=compD_filter ea p R ok hS r ρ1 h2 fun y hy=>ho y (List.mem_cons_of_mem _ hy)
    rw [List.map_cons,compD,h1]
    simp only [Option.bind_some,h3,h4,ih]
    by_cases hp:p x = true
    · rw [if_pos hp,List.filter_cons_of_pos hp]
      rfl
    · rw [if_neg hp,List.filter_cons_of_neg hp]
noncomputable def eNr (n:Nat) (nr:Nat → Int):PyData:=.list (((List.range n).map nr).map .int)
noncomputable def nrMin (T:Nat → Nat → Int) (t:Nat) (nr:Nat → Int):Nat → Int:=fun j=>if T t j < nr j then T t j else nr j
theorem near_eq {n:Nat} (hn:n ≤ 12) (nr f:Nat → Int):(compO (tupS 2 (consS (setS 0) (consS (setS 1) (nilS)))) (fun _=>some true) E_p_farthest_first_0 (zipO (some (((List.range n).map nr).map .int)) (some (((List.range n).map f).map .int))) [none,none]) = some (((List.range n).map fun j=>if f j < nr j then f j else nr j).map .int):=by
  have ez:zipL (((List.range n).map nr).map PyData.int) (((List.range n).map f).map PyData.int) = (List.range n).map fun j=>.tuple [.int (nr j),.int (f j)]:=by
    unfold zipL
    apply List.ext_getElem?
    intro i
    rw [List.getElem?_zipWith,List.getElem?_map,List.getElem?_map,List.getElem?_map,List.getElem?_map,List.getElem?_map]
    cases (List.range n)[i]? <;> rfl
  show compO _ _ _ (some (zipL _ _)) _ = _
  rw [ez,compO_s (by rw [List.length_map,List.length_range]; omega)]
  exact compD_map (S:=tupS 2 (consS (setS 0) (consS (setS 1) nilS))) (fe:=E_p_farthest_first_0) (fun j:Nat=>PyData.tuple [.int (nr j),.int (f j)]) PyData.int (fun j=>if f j < nr j then f j else nr j) (fun ρ=>∃ a b,ρ = [a,b]) (fun _=>True) (fun j ρ _ ⟨a,b,e⟩=>⟨[some (.int (nr j)),some (.int (f j))],by rw [e]; rfl,⟨_,_,rfl⟩,rfl⟩) (List.range n) [none,none] ⟨_,_,rfl⟩ fun _ _=>trivial
theorem lenD_eT (n:Nat) (T:Nat → Nat → Int):lenD [eT n T] = some (.int (n:Nat)):=by
  show some (PyData.int (((mkT n T).map encR).length:Nat)) = _
  rw [List.length_map,mkT_len]
theorem nd_len:∀ (n:Nat) (P:List Nat),P.Nodup → (∀ p ∈ P,p < n) → P.length ≤ n
  | 0,P,_,h=>by
    cases P with
    | nil=>exact Nat.le_refl _
    | cons p r=>exact absurd (h p List.mem_cons_self) (Nat.not_lt_zero _)
  | n + 1,P,hd,h=>by
    have ih:=nd_len n (P.erase n) (hd.erase n) fun p hp=>by
      have h1:=(List.Nodup.mem_erase_iff hd).mp hp
      have:=h p h1.2
      have:=h1.1
      (clear this h; omega)
    rw [List.length_erase] at ih
    split at ih <;> (clear h; omega)
noncomputable def nrP (T:Nat → Nat → Int) (P:List Nat) (i:Nat):Int:=match P with
  | []=>0
  | p :: r=>minI (T i p) (r.map fun q=>T i q)
theorem nrP_is (T:Nat → Nat → Int) {P:List Nat} (i:Nat) (h:P ≠ []):(∃ p ∈ P,T i p = nrP T P i) ∧ ∀ p ∈ P,nrP T P i ≤ T i p:=by
  cases P with
  | nil=>exact absurd rfl h
  | cons p r=>
    obtain ⟨h1,h2⟩:=minI_is (r.map fun q=>T i q) (T i p)
    have e:T i p :: r.map (fun q=>T i q) = (p :: r).map fun q=>T i q:=rfl
    rw [e] at h1 h2
    obtain ⟨q,hq,eq⟩:=List.mem_map.mp h1
    exact ⟨⟨q,hq,eq⟩,fun q hq=>h2 _ (List.mem_map.mpr ⟨q,hq,rfl⟩)⟩
theorem min_nr (T:Nat → Nat → Int) {P:List Nat} (i:Nat) (h:P ≠ []):minLD (.list ((P.map fun q=>T i q).map .int)) = some (.int (nrP T P i)):=by
  cases P with
  | nil=>exact absurd rfl h
  | cons p r=>
    show (intsO ((T i p :: r.map fun q=>T i q).map .int)).bind _ = _
    rw [intsO_map]
    rfl
structure IsNr (n:Nat) (T:Nat → Nat → Int) (P:List Nat) (nr:Nat → Int):Prop where
  at':∀ j,j < n → ∃ p ∈ P,T j p = nr j
  le:∀ j,j < n → ∀ p ∈ P,nr j ≤ T j p
theorem IsNr.eq {n:Nat} {T:Nat → Nat → Int} {P:List Nat} {nr:Nat → Int} (I:IsNr n T P nr) (h:P ≠ []) {j:Nat} (hj:j < n):nr j = nrP T P j:=by
  obtain ⟨⟨p,hp,e⟩,h2⟩:=nrP_is T j h
  obtain ⟨q,hq,e2⟩:=I.at' j hj
  have:=I.le j hj p hp
  have:=h2 q hq
  (clear h2 hj; omega)
theorem IsNr.step {n:Nat} {T:Nat → Nat → Int} {P:List Nat} {nr:Nat → Int} (G:Good n T) (I:IsNr n T P nr) {t:Nat} (ht:t < n):IsNr n T (P ++ [t]) (nrMin T t nr):=by
  refine ⟨fun j hj=>?_,fun j hj p hp=>?_⟩
  · unfold nrMin
    split
    · exact ⟨t,by simp,G.sy j t hj ht⟩
    · obtain ⟨p,hp,e⟩:=I.at' j hj
      exact ⟨p,List.mem_append_left _ hp,e⟩
  · have e:=G.sy j t hj ht
    unfold nrMin
    rcases List.mem_append.mp hp with z | z
    · have:=I.le j hj p z
      split <;> (clear e hj ht; omega)
    · rw [List.mem_singleton.mp z]
      split <;> (clear hj ht; omega)
structure Fst (n:Nat) (nr:Nat → Int) (t:Nat):Prop where
  lt:t < n
  mx:∀ i,i < n → nr i ≤ nr t
  fs:∀ i,i < t → nr i < nr t
theorem Fst.one {n:Nat} {nr:Nat → Int} {s t:Nat} (a:Fst n nr s) (b:Fst n nr t):s = t:=by
  have h1:=a.mx t b.lt
  have h2:=b.mx s a.lt
  rcases Nat.lt_trichotomy s t with h | h | h
  · have:=b.fs s h
    (clear h h2; omega)
  · exact h
  · have:=a.fs t h
    (clear h h1; omega)
theorem Fst.congr {n:Nat} {nr nr':Nat → Int} {t:Nat} (a:Fst n nr t) (h:∀ i,i < n → nr i = nr' i):Fst n nr' t:=by
  have ht:=h t a.lt
  refine ⟨a.lt,fun i hi=>?_,fun i hi=>?_⟩
  · have:=a.mx i hi
    have:=h i hi
    (clear hi h; omega)
  · have:=a.fs i hi
    have:=h i (Nat.lt_trans hi a.lt)
    (clear hi h; omega)
theorem nr_fst {n:Nat} (h1:1 ≤ n) (nr:Nat → Int):∃ t,Fst n nr t ∧ maxLD (eNr n nr) = some (.int (nr t)) ∧ indexD (eNr n nr) (.int (nr t)) = some (.int (t:Nat)):=by
  obtain ⟨r,g1,g2,g3⟩:=maxL_is (ns:=(List.range n).map nr) (fun z=>by
    have:=congrArg List.length z
    rw [List.length_map,List.length_range,List.length_nil] at this
    omega)
  have hall:(((List.range n).map nr).map PyData.int).all flatD = true:=by
    rw [List.all_eq_true]
    intro d hd
    obtain ⟨x,_,rfl⟩:=List.mem_map.mp hd
    rfl
  cases hf:((((List.range n).map nr).map PyData.int).map fun d=>eqF d (.int r)).findIdx? id with
  | none=>
    rw [List.findIdx?_eq_none_iff] at hf
    have:=hf true (List.mem_map.mpr ⟨.int r,List.mem_map.mpr ⟨r,g2,rfl⟩,by show (r == r) = true; simp⟩)
    cases this
  | some t=>
    obtain ⟨k1,k2,k3⟩:=List.findIdx?_eq_some_iff_getElem.mp hf
    rw [List.length_map,List.length_map,List.length_map,List.length_range] at k1
    rw [List.getElem_map,List.getElem_map,List.getElem_map,List.getElem_range] at k2
    have et:nr t = r:=eq_of_beq k2
    have hm:∀ i,i < n → nr i ≤ nr t:=fun i hi=>by rw [et]; exact g3 _ (List.mem_map.mpr ⟨i,List.mem_range.mpr hi,rfl⟩)
    refine ⟨t,⟨k1,hm,fun i hi=>?_⟩,by rw [et]; exact g1,?_⟩
    · have h4:=k3 i hi
      rw [List.getElem_map,List.getElem_map,List.getElem_map,List.getElem_range] at h4
      have h5:nr i ≠ r:=fun z=>h4 (by show (nr i == r) = true; rw [z]; simp)
      have:=hm i (Nat.lt_trans hi k1)
      (clear hi hm k3 k1 g3 h1; omega)
    · rw [et]
      show (if ((((List.range n).map nr).map PyData.int).all flatD && flatD (PyData.int r)) = true then Option.map (fun j:Nat=>PyData.int (j:Nat)) (List.findIdx? id ((((List.range n).map nr).map PyData.int).map fun d=>eqF d (.int r))) else none) = _
      rw [hall,hf]
      rfl
open Classical in
noncomputable def nxt (n:Nat) (T:Nat → Nat → Int) (m:Int) (P:List Nat):List Nat:=if h:∃ t,Fst n (nrP T P) t ∧ (P.length:Int) < m ∧ 0 < nrP T P t then P ++ [h.choose] else P
theorem nxt_t {n:Nat} {T:Nat → Nat → Int} {m:Int} {P:List Nat} {t:Nat} (h1:Fst n (nrP T P) t) (h2:(P.length:Int) < m) (h3:0 < nrP T P t):nxt n T m P = P ++ [t]:=by
  have h:∃ t,Fst n (nrP T P) t ∧ (P.length:Int) < m ∧ 0 < nrP T P t:=⟨t,h1,h2,h3⟩
  unfold nxt
  rw [dif_pos h,h.choose_spec.1.one h1]
theorem nxt_f {n:Nat} {T:Nat → Nat → Int} {m:Int} {P:List Nat} {t:Nat} (h1:Fst n (nrP T P) t) (h2:¬((P.length:Int) < m ∧ 0 < nrP T P t)):nxt n T m P = P:=by
  unfold nxt
  rw [dif_neg]
  rintro ⟨s,g1,g2⟩
  rw [g1.one h1] at g2
  exact h2 g2
noncomputable def itr (n:Nat) (T:Nat → Nat → Int) (m:Int):Nat → List Nat → List Nat
  | 0,P=>P
  | k + 1,P=>itr n T m k (nxt n T m P)
theorem itr_out (n:Nat) (T:Nat → Nat → Int) (m:Int):∀ (k:Nat) (P:List Nat),itr n T m (k + 1) P = nxt n T m (itr n T m k P)
  | 0,P=>rfl
  | k + 1,P=>by rw [itr,itr_out n T m k,itr]
theorem itr_fix {n:Nat} {T:Nat → Nat → Int} {m:Int} {P:List Nat} (h:nxt n T m P = P):∀ k,itr n T m k P = P
  | 0=>rfl
  | k + 1=>by rw [itr,h,itr_fix h k]
structure POk (n:Nat) (P:List Nat):Prop where
  ne:P ≠ []
  nd:P.Nodup
  lt:∀ p ∈ P,p < n
theorem POk.len {n:Nat} {P:List Nat} (h:POk n P):P.length ≤ n:=nd_len n P h.nd h.lt
theorem POk.add {n:Nat} {T:Nat → Nat → Int} {P:List Nat} {t:Nat} (G:Good n T) (h:POk n P) (h1:Fst n (nrP T P) t) (h3:0 < nrP T P t):POk n (P ++ [t]):=by
  refine ⟨by simp,?_,fun p hp=>?_⟩
  · rw [List.nodup_append]
    refine ⟨h.nd,by simp,fun a ha b hb e=>?_⟩
    rw [List.mem_singleton.mp hb] at e
    subst e
    have h4:=(nrP_is T a h.ne).2 a ha
    have:=G.dg a h1.lt
    omega
  · rcases List.mem_append.mp hp with z | z
    · exact h.lt p z
    · rw [List.mem_singleton.mp z]; exact h1.lt
theorem POk.nxt {n:Nat} (h1:1 ≤ n) {T:Nat → Nat → Int} (G:Good n T) (m:Int) {P:List Nat} (h:POk n P):POk n (nxt n T m P):=by
  obtain ⟨t,hf,_,_⟩:=nr_fst h1 (nrP T P)
  by_cases hc:(P.length:Int) < m ∧ 0 < nrP T P t
  · rw [nxt_t hf hc.1 hc.2]
    exact h.add G hf hc.2
  · rw [nxt_f hf hc]
    exact h
theorem POk.itr {n:Nat} (h1:1 ≤ n) {T:Nat → Nat → Int} (G:Good n T) (m:Int):∀ (k:Nat) {P:List Nat},POk n P → POk n (itr n T m k P)
  | 0,_,h=>h
  | k + 1,_,h=>POk.itr h1 G m k (h.nxt h1 G m)
theorem mkT_map (n:Nat) (T:Nat → Nat → Int):(mkT n T).map encR = (List.range n).map fun i=>encR ((List.range n).map fun j=>T i j):=by
  unfold mkT
  rw [List.map_map]
  rfl
theorem clrP_nil {i:Nat} {ρ:Rho} {ds:List PyData} (h:ρ[i]? = some (some (.list ds))):clrP i (.lst .cl) ρ (some []) = some (.nx (ρ.set i (some (.list [])))):=by
  unfold clrP
  rw [Option.bind_some,h,Option.join_some,Option.bind_some,if_pos (show tyP (.lst .cl) (.list ds) [] = true from rfl)]
  rfl
theorem lenD_N (P:List Nat):lenD [encN P] = some (.int (P.length:Nat)):=by
  show some (PyData.int ((P.map fun x=>PyData.int (x:Nat)).length:Nat)) = _
  rw [encN_len]
theorem ff_test {n:Nat} {m:Int} (P:List Nat) {nr:Nat → Int} {d:Int} (hd:maxLD (eNr n nr) = some (.int d)) (x0 x2 x5:Option PyData):W_p_farthest_first_1 [x0,some (.int m),x2,some (encN P),some (eNr n nr),x5] = some (decide ((P.length:Int) < m) && decide (0 < d)):=by
  show andB (testD (bind2 (lenD [encN P]) (some (.int m)) ltD)) (testD (bind2 (maxLD (eNr n nr)) (some (.int 0)) gtD)) = _
  rw [lenD_N,hd]
  show andB (some (decide ((P.length:Int) < m))) (some (decide (0 < d))) = _
  cases decide ((P.length:Int) < m) <;> rfl
theorem ff_body {n:Nat} {T:Nat → Nat → Int} (hn:n ≤ 12) {P:List Nat} (hP:P.length < 100) {nr:Nat → Int} {t:Nat} (ht:t < n) (hd:maxLD (eNr n nr) = some (.int (nr t))) (e1:indexD (eNr n nr) (.int (nr t)) = some (.int (t:Nat))) (x1 x2 x5:Option PyData) :
    L_p_farthest_first_2 [some (wObj n T),x1,x2,some (encN P),some (eNr n nr),x5] = some (.nx [some (wObj n T),x1,x2,some (encN (P ++ [t])),some (eNr n (nrMin T t nr)),some (.int (t:Nat))]):=by
  unfold L_p_farthest_first_2
  rw [seqF_def]
  show thenO (setO 5 [some (wObj n T),x1,x2,some (encN P),some (eNr n nr),x5] (bind2 (some (eNr n nr)) (maxLD (eNr n nr)) indexD)) _ = _
  rw [hd,bind2_ss,e1,setO_s,thenO_nx,seqF_def]
  show thenO (if decide ((P.map fun x=>PyData.int (x:Nat)).length < 1000) = true then some (.nx [some (wObj n T),x1,x2,some (.list ((P.map fun x=>PyData.int (x:Nat)) ++ [.int (t:Nat)])),some (eNr n nr),some (.int (t:Nat))]) else none) _ = _
  rw [if_pos (decide_eq_true (by rw [encN_len]; (clear ht hn; omega))),thenO_nx,show PyData.list ((P.map fun x=>PyData.int (x:Nat)) ++ [.int (t:Nat)]) = encN (P ++ [t]) from by unfold encN; rw [List.map_append]; rfl]
  show setO 4 _ (((compO _ _ _ (zipO (some (((List.range n).map nr).map .int)) (((bind2 (fldD "Ways" "rows" (wObj n T)) (some (.int (t:Nat))) ixD).filter lf).bind tupD)) [none,none]).filter lf.go).map .list) = _
  rw [fld_rows,bind2_ss,ix_tt T ht,Option.filter_some,if_pos (show lf (encTr _) = true from lf_zs _),Option.bind_some,tupD_tr,near_eq hn,Option.filter_some,if_pos (lf_zs _)]
  rfl
theorem ff_loop {n:Nat} {m:Int} {T:Nat → Nat → Int} (G:Good n T) (h1:1 ≤ n) (hn:n ≤ 12) (x2:Option PyData):∀ (fuel k:Nat) (P:List Nat) (nr:Nat → Int) (x5:Option PyData),POk n P → IsNr n T P nr → n ≤ P.length + k → k < fuel →
    ∃ nr' y5,whileD W_p_farthest_first_1 L_p_farthest_first_2 fuel [some (wObj n T),some (.int m),x2,some (encN P),some (eNr n nr),x5] = some (.nx [some (wObj n T),some (.int m),x2,some (encN (itr n T m k P)),some (eNr n nr'),y5])
  | 0,k,P,nr,x5,ok,I,hk,hf=>absurd hf (Nat.not_lt_zero _)
  | fuel + 1,k,P,nr,x5,ok,I,hk,hf=>by
    obtain ⟨t,hF,e1,e2⟩:=nr_fst h1 nr
    have hF':Fst n (nrP T P) t:=hF.congr fun i hi=>I.eq ok.ne hi
    have et:nr t = nrP T P t:=I.eq ok.ne hF.lt
    have hl:=ok.len
    rw [whileD,ff_test P e1,Option.bind_some]
    by_cases c1:(P.length:Int) < m
    · by_cases c2:0 < nr t
      · have hp:=ok.add G hF' (by (clear c1 hl hf hk hn h1; omega))
        have hl2:(P ++ [t]).length = P.length + 1:=by rw [List.length_append]; rfl
        have hl3:=hp.len
        obtain ⟨k',rfl⟩:∃ k',k = k' + 1:=⟨k - 1,by (clear c2 c1 hl et hf hn h1; omega)⟩
        obtain ⟨nr',y5,q⟩:=ff_loop (m:=m) G h1 hn x2 fuel k' (P ++ [t]) (nrMin T t nr) (some (.int (t:Nat))) hp (I.step G hF.lt) (by (clear hf hl3 c2 c1 hl et hn h1; omega)) (by (clear hk hl3 hl2 c2 c1 hl et hn h1; omega))
        refine ⟨nr',y5,?_⟩
        rw [decide_eq_true c1,decide_eq_true c2,show (true && true) = true from rfl,if_pos rfl,ff_body hn (by (clear hf hk hl3 hl2 c2 c1 et h1; omega)) hF.lt e1 e2,Option.bind_some,itr,nxt_t hF' c1 (by (clear hf hk hl3 hl2 c1 hl hn h1; omega))]
        exact q
      · refine ⟨nr,x5,?_⟩
        rw [itr_fix (nxt_f hF' (by (clear c1 hl hf hk hn h1; omega))),decide_eq_true c1,decide_eq_false c2]
        rfl
    · refine ⟨nr,x5,?_⟩
      rw [itr_fix (nxt_f hF' (by (clear hl et hf hk hn h1; omega))),decide_eq_false c1]
      rfl
theorem is_num (n:Nat) (T:Nat → Nat → Int) (f:Int):F_p_is_number_of [encTT n T,.int f] = some (.bool (decide (0 ≤ f) && decide (f < (n:Nat)))):=by
  show outD ((chainD (some (.int 0)) (some (.int f)) leD ltD (lenD [encTT n T])).map Out.rt) = _
  unfold chainD
  rw [len_tt,Option.bind_some,Option.bind_some,leD_ok]
  cases decide ((0:Int) ≤ f) <;> rfl
theorem many_ok {m:Int} (h:1 ≤ m):FX_p_check_many [.int m] = some (.ret .none):=by
  show outX (condO (some (decide (m < 1))) _ _) = _
  rw [decide_eq_false (Int.not_lt.mpr h)]
  rfl
theorem many_no {m:Int} (h:m < 1):FX_p_check_many [.int m] = some (.exc (excD "NoMany" [])):=by
  show outX (condO (some (decide (m < 1))) _ _) = _
  rw [decide_eq_true h]
  rfl
theorem pok1 {n f:Nat} (hf:f < n):POk n [f]:=⟨by simp,by simp,fun p hp=>by rw [List.mem_singleton.mp hp]; exact hf⟩
theorem ffX_many {n:Nat} {T:Nat → Nat → Int} {m:Int} (h:m < 1) (f:PyData):FX_p_farthest_first [wObj n T,.int m,f] = some (.exc (excD "NoMany" [])):=by
  show outX (thenX (dropX _ (FX_p_check_many [.int m])) _) = _
  rw [many_no h]
  rfl
theorem ffX_thing {n:Nat} {T:Nat → Nat → Int} {m:Int} (h:1 ≤ m) {f:Int} (hf:f < 0 ∨ (n:Nat) ≤ f) (hs:f.natAbs.log2 < 1920):FX_p_farthest_first [wObj n T,.int m,.int f] = some (.exc (excD "NoThing" [.str "thing",.int f])):=by
  show outX (thenX (dropX _ (FX_p_check_many [.int m])) _) = _
  rw [many_ok h]
  show outX (thenX (condO ((testD ((consD (fldD "Ways" "rows" (wObj n T)) (some [.int f])).bind F_p_is_number_of)).map not) (raiseX "NoThing" "thing" _ (some (.int f))) _) _) = _
  rw [fld_rows]
  show outX (thenX (condO ((testD (F_p_is_number_of [encTT n T,.int f])).map not) (raiseX "NoThing" "thing" _ (some (.int f))) _) _) = _
  rw [is_num,show (decide (0 ≤ f) && decide (f < (n:Nat))) = false from by
    rcases hf with z | z
    · rw [decide_eq_false (by (clear hs h; omega))]; rfl
    · rw [show decide (f < (n:Nat)) = false from decide_eq_false (by (clear hs h; omega))]; exact Bool.and_false _]
  show outX (thenX (if f.natAbs.log2 < 1920 then some (.ex (excD "NoThing" [.str "thing",.int f]) _) else none) _) = _
  rw [if_pos hs]
  rfl
theorem ffX_ok {n f:Nat} {T:Nat → Nat → Int} {m:Int} (G:Good n T) (h1:1 ≤ n) (hn:n ≤ 12) (h:1 ≤ m) (hf:f < n):FX_p_farthest_first [wObj n T,.int m,.int (f:Nat)] = some (.ret (encN (itr n T m n [f]))):=by
  obtain ⟨nr,y5,q⟩:=ff_loop (m:=m) G h1 hn (some (.int (f:Nat))) 64 n [f] (fun j=>T f j) none (pok1 hf) ⟨fun j hj=>⟨f,by simp,G.sy j f hj hf⟩,fun j hj p hp=>by rw [List.mem_singleton.mp hp,G.sy j f hj hf]; exact Int.le_refl _⟩ (by (clear hf h hn h1; omega)) (by (clear hf h h1; omega))
  show outX (thenX (dropX _ (FX_p_check_many [.int m])) _) = _
  rw [many_ok h]
  show outX (thenX (condO ((testD ((consD (fldD "Ways" "rows" (wObj n T)) (some [.int (f:Nat)])).bind F_p_is_number_of)).map not) (raiseX "NoThing" "thing" _ (some (.int (f:Nat)))) _) _) = _
  rw [fld_rows]
  show outX (thenX (condO ((testD (F_p_is_number_of [encTT n T,.int (f:Nat)])).map not) (raiseX "NoThing" "thing" _ (some (.int (f:Nat)))) _) _) = _
  rw [is_num,show (decide ((0:Int) ≤ (f:Nat)) && decide (((f:Nat):Int) < (n:Nat))) = true from by
    rw [decide_eq_true (by (clear hf h hn h1; omega)),decide_eq_true (by (clear h hn h1; omega))]; rfl]
  show outX (((seqF _ _) [some (wObj n T),some (.int m),some (.int (f:Nat)),none,none,none]).map Out.x) = _
  rw [seqF_nx (ρ':=[some (wObj n T),some (.int m),some (.int (f:Nat)),some (encN [f]),none,none]) rfl]
  rw [seqF_nx (ρ':=[some (wObj n T),some (.int m),some (.int (f:Nat)),some (encN [f]),some (eNr n fun j=>T f j),none]) ?s1]
  case s1=>
    show setO 4 _ ((((bind2 (fldD "Ways" "rows" (wObj n T)) (some (.int (f:Nat))) ixD).bind seqD).filter lf.go).map PyData.list) = _
    rw [fld_rows,bind2_ss,ix_tt T hf]
    show setO 4 _ (((some (((List.range n).map fun j=>T f j).map PyData.int)).filter lf.go).map PyData.list) = _
    rw [filt (lf_zs _)]
    rfl
  rw [seqF_nx q]
  rfl
theorem due_row {n:Nat} {T:Nat → Nat → Int} {P:List Nat} (ok:POk n P) (hn:n ≤ 12) (i:Nat):E_l_due_1 [some (encR ((List.range n).map fun j=>T i j)),some (encN P)] = some (.int (nrP T P i)):=by
  have hl:=ok.len
  show ((compO (setS 0) (fun _=>some true) E_l_due_0 (some (P.map fun x=>.int (x:Nat))) [none,some (encR ((List.range n).map fun j=>T i j))]).map PyData.list).bind minLD = _
  rw [compO_s (by rw [encN_len]; omega),compD_map (S:=setS 0) (fe:=E_l_due_0) (fun q:Nat=>PyData.int (q:Nat)) PyData.int (fun q=>T i q) (fun ρ=>∃ a,ρ = [a,some (encR ((List.range n).map fun j=>T i j))]) (fun q=>q < n) (fun q ρ hq ⟨a,e⟩=>⟨[some (.int (q:Nat)),some (encR ((List.range n).map fun j=>T i j))],by rw [e]; rfl,⟨_,rfl⟩,by show bind2 (some _) (some _) ixD = _; rw [bind2_ss]; exact ix_cell _ hq⟩) P [none,some (encR ((List.range n).map fun j=>T i j))] ⟨_,rfl⟩ ok.lt]
  exact min_nr T i ok.ne
theorem due_far {n:Nat} {T:Nat → Nat → Int} {P:List Nat} (ok:POk n P) (hn:n ≤ 12):compO (setS 0) (fun _=>some true) E_l_due_1 (listD (eT n T)) [none,some (encN P)] = some (((List.range n).map (nrP T P)).map .int):=by
  show compO (setS 0) (fun _=>some true) E_l_due_1 (some ((mkT n T).map encR)) [none,some (encN P)] = _
  rw [mkT_map,compO_s (by rw [List.length_map,List.length_range]; omega)]
  exact compD_map (S:=setS 0) (fe:=E_l_due_1) (fun i:Nat=>encR ((List.range n).map fun j=>T i j)) PyData.int (nrP T P) (fun ρ=>∃ a,ρ = [a,some (encN P)]) (fun _=>True) (fun i ρ _ ⟨a,e⟩=>⟨[some (encR ((List.range n).map fun j=>T i j)),some (encN P)],by rw [e]; rfl,⟨_,rfl⟩,due_row ok hn i⟩) (List.range n) [none,some (encN P)] ⟨_,rfl⟩ fun _ _=>trivial
theorem due_least {n t:Nat} {nr:Nat → Int} (hn:n ≤ 12) (hF:Fst n nr t) (e1:maxLD (eNr n nr) = some (.int (nr t))):((compO (setS 0) I_l_due_2 E_l_due_3 (some (rngL 0 n)) [none,some (eNr n nr)]).map PyData.list).bind minLD = some (.int (t:Nat)):=by
  have er:rngL 0 n = (List.range n).map fun i:Nat=>PyData.int (i:Nat):=by
    unfold rngL
    exact List.map_congr_left fun i _=>by rw [Int.zero_add]
  rw [compO_s (by rw [er,List.length_map,List.length_range]; omega),er,compD_filter (S:=setS 0) (ft:=I_l_due_2) (fe:=E_l_due_3) (fun i:Nat=>PyData.int (i:Nat)) (fun i=>decide (nr i = nr t)) (fun ρ=>∃ a,ρ = [a,some (eNr n nr)]) (fun i=>i < n) (fun i ρ hi ⟨a,e⟩=>⟨[some (.int (i:Nat)),some (eNr n nr)],by rw [e]; rfl,⟨_,rfl⟩,by
    show testD (bind2 (bind2 (some (encR ((List.range n).map nr))) (some (.int (i:Nat))) ixD) (maxLD (eNr n nr)) eqD) = _
    rw [bind2_ss,ix_cell nr hi,e1,bind2_ss,eqD_int]
    rfl,rfl⟩) (List.range n) [none,some (eNr n nr)] ⟨_,rfl⟩ fun i hi=>List.mem_range.mp hi]
  show minLD (.list (((List.range n).filter fun i=>decide (nr i = nr t)).map fun i:Nat=>PyData.int (i:Nat))) = _
  have ht:t ∈ (List.range n).filter fun i=>decide (nr i = nr t):=List.mem_filter.mpr ⟨List.mem_range.mpr hF.lt,decide_eq_true rfl⟩
  obtain ⟨r,g1,g2,g3⟩:=minL_is (ns:=((List.range n).filter fun i=>decide (nr i = nr t)).map fun i:Nat=>(i:Int)) (fun z=>by
    have:=List.map_eq_nil_iff.mp z
    rw [this] at ht
    cases ht)
  rw [List.map_map] at g1
  rw [show (fun i:Nat=>PyData.int (i:Nat)) = PyData.int ∘ fun i:Nat=>(i:Int) from rfl,g1]
  obtain ⟨i,hi,rfl⟩:=List.mem_map.mp g2
  have h2:=of_decide_eq_true (List.mem_filter.mp hi).2
  have h3:=g3 _ (List.mem_map.mpr ⟨t,ht,rfl⟩)
  have:¬ i < t:=fun z=>by
    have:=hF.fs i z
    (clear z h3 g3 g2 g1 hi ht hn; omega)
  rw [show i = t from by (clear h2 g3 g2 g1 hi ht hn; omega)]
theorem due_body {n:Nat} {T:Nat → Nat → Int} {m:Int} {P:List Nat} (ok:POk n P) (h1:1 ≤ n) (hn:n ≤ 12) (x2 x4 x5:Option PyData) :
    ∃ y5,L_l_due_4 [some (eT n T),some (.int m),x2,some (encN P),x4,x5] = some (.nx [some (eT n T),some (.int m),x2,some (encN (nxt n T m P)),x4,y5]):=by
  obtain ⟨t,hF,e1,e2⟩:=nr_fst h1 (nrP T P)
  have hl:=ok.len
  refine ⟨some (eNr n (nrP T P)),?_⟩
  unfold L_l_due_4
  rw [seqF_def]
  show thenO (setO 5 _ (((compO (setS 0) (fun _=>some true) E_l_due_1 (listD (eT n T)) [none,some (encN P)]).filter lf.go).map PyData.list)) _ = _
  rw [due_far ok hn,Option.filter_some,if_pos (lf_zs _),Option.map_some,setO_s,thenO_nx]
  show condO (andB (testD (bind2 (lenD [encN P]) (some (.int m)) ltD)) (testD (bind2 (maxLD (eNr n (nrP T P))) (some (.int 0)) gtD))) (((((compO (setS 0) I_l_due_2 E_l_due_3 ((consD (lenD [eT n T]) (some [])).bind rng1D) [none,some (eNr n (nrP T P))]).map PyData.list).bind minLD).bind (appD 3 [some (eT n T),some (.int m),x2,some (encN P),x4,some (eNr n (nrP T P))]))) _ = _
  rw [lenD_N,e1,bind2_ss,bind2_ss,ltD_ok,gtD_ok,testD_s,testD_s]
  by_cases c1:(P.length:Int) < m
  · by_cases c2:0 < nrP T P t
    · rw [decide_eq_true c1,decide_eq_true c2,nxt_t hF c1 c2]
      show ((((compO (setS 0) I_l_due_2 E_l_due_3 ((consD (lenD [eT n T]) (some [])).bind rng1D) [none,some (eNr n (nrP T P))]).map PyData.list).bind minLD).bind (appD 3 [some (eT n T),some (.int m),x2,some (encN P),x4,some (eNr n (nrP T P))])) = _
      rw [lenD_eT,consD_ss,Option.bind_some,rng1_n hn,due_least hn hF e1]
      show (if decide ((P.map fun x=>PyData.int (x:Nat)).length < 1000) = true then some (Out.nx [some (eT n T),some (.int m),x2,some (.list ((P.map fun x=>PyData.int (x:Nat)) ++ [.int (t:Nat)])),x4,some (eNr n (nrP T P))]) else none) = _
      rw [if_pos (decide_eq_true (by rw [encN_len]; (clear c2 c1 h1; omega))),show PyData.list ((P.map fun x=>PyData.int (x:Nat)) ++ [.int (t:Nat)]) = encN (P ++ [t]) from by unfold encN; rw [List.map_append]; rfl]
    · rw [decide_eq_true c1,decide_eq_false c2,nxt_f hF (fun z=>c2 z.2)]
      rfl
  · rw [decide_eq_false c1,nxt_f hF (fun z=>c1 z.1)]
    rfl
theorem due_eq {n f:Nat} {T:Nat → Nat → Int} {m:Int} (G:Good n T) (h1:1 ≤ n) (hn:n ≤ 12) (hf:f < n):F_l_due [eT n T,.int m,.int (f:Nat)] = some (encN (itr n T m n [f])):=by
  obtain ⟨_,t,_,el⟩:=forD_rng (k:=4) (F:=L_l_due_4) (α:=Unit) (fun _ _=>True) (fun k _ t=>[some (eT n T),some (.int m),some (.int (f:Nat)),some (encN (itr n T m k [f])),t 0,t 1]) n () (fun _=>none) trivial fun i _ t hi _=>by
    obtain ⟨y5,q⟩:=due_body (m:=m) (T:=T) ((pok1 hf).itr h1 G m i) h1 hn (some (.int (f:Nat))) (some (.int (i:Nat))) (t 1)
    refine ⟨(),tr2 (some (.int (i:Nat))) y5,trivial,?_⟩
    show L_l_due_4 _ = some (.nx [some (eT n T),some (.int m),some (.int (f:Nat)),some (encN (itr n T m (i + 1) [f])),some (.int (i:Nat)),y5])
    rw [itr_out]
    exact q
  show outD (B_l_due [some (eT n T),some (.int m),some (.int (f:Nat)),none,none,none]) = _
  unfold B_l_due
  rw [seqF_nx (ρ':=[some (eT n T),some (.int m),some (.int (f:Nat)),some (encN [f]),none,none]) rfl]
  rw [seqF_nx (ρ':=[some (eT n T),some (.int m),some (.int (f:Nat)),some (encN (itr n T m n [f])),t 0,t 1]) ?s1]
  case s1=>
    show forO (setS 4) L_l_due_4 ((consD (lenD [eT n T]) (some [])).bind rng1D) _ = _
    rw [lenD_eT,consD_ss,Option.bind_some,rng1_n hn]
    exact el
  rfl
theorem whole_eq (x:Int):F_l_whole [.int x] = some (.bool true):=rfl
theorem which_many:F_l_which [excD "NoMany" []] = some (.int 0):=by kernel_rfl
theorem which_thing (f:Int):F_l_which [excD "NoThing" [.str "thing",.int f]] = some (.int 10):=by kernel_rfl
theorem fldX_thing (f:Int):fldXD exNames "thing" (excD "NoThing" [.str "thing",.int f]) = some (.int f):=by kernel_rfl
theorem encN_ints (P:List Nat):encN P = .list ((P.map fun x:Nat=>(x:Int)).map .int):=by
  unfold encN
  rw [List.map_map]
  rfl
theorem eqD_N (P:List Nat):eqD (encN P) (encN P) = some (.bool true):=by
  rw [encN_ints,eqD_ints,decide_eq_true rfl]
theorem neD_N (P:List Nat):neD (encN P) (encN P) = some (.bool false):=by
  have h:=eqD_N P
  unfold eqD at h
  unfold neD
  split at h
  · rename_i hc
    rw [if_pos hc]
    have:=congrArg (fun d=>match d with | some (PyData.bool b)=>some (PyData.bool !b) | _=>none) h
    exact this
  · cases h
theorem seqF_rt {F G:Rho → Option Out} {ρ:Rho} {d:PyData} (h:F ρ = some (.rt d)):seqF F G ρ = some (.rt d):=by
  unfold seqF
  rw [h]
  rfl
theorem none_bad (P:List Nat) (hl:P.length ≤ 100):compO (setS 0) I_l_right_1 E_l_right_2 (listD (encN P)) [none] = some []:=by
  show compO (setS 0) I_l_right_1 E_l_right_2 (some (P.map fun x=>.int (x:Nat))) [none] = _
  rw [compO_s (by rw [encN_len]; omega),compD_filter (S:=setS 0) (ft:=I_l_right_1) (fe:=E_l_right_2) (fun i:Nat=>PyData.int (i:Nat)) (fun _=>false) (fun ρ=>∃ a,ρ = [a]) (fun _=>True) (fun i ρ _ ⟨a,e⟩=>⟨[some (.int (i:Nat))],by rw [e]; rfl,⟨_,rfl⟩,rfl,rfl⟩) P [none] ⟨_,rfl⟩ fun _ _=>trivial,show P.filter (fun _=>false) = [] from by simp]
  rfl
theorem right_eq {n:Nat} {T:Nat → Nat → Int} (G:Good n T) (h1:1 ≤ n) (hn:n ≤ 12) (m f:Int) (hs:f.natAbs.log2 < 1920):F_l_right [eT n T,wObj n T,.int m,.int f] = some (.bool true):=by
  have q:B_l_right [some (eT n T),some (wObj n T),some (.int m),some (.int f),none,none,none,none] = some (.rt (.bool true)):=by
    unfold B_l_right
    rw [seqF_nx (ρ':=[some (eT n T),some (wObj n T),some (.int m),some (.int f),some .none,none,none,none]) rfl]
    rw [seqF_nx (ρ':=[some (eT n T),some (wObj n T),some (.int m),some (.int f),some .none,some .none,none,none]) rfl]
    by_cases c1:m < 1
    · rw [seqF_nx (ρ':=[some (eT n T),some (wObj n T),some (.int m),some (.int f),some (excD "NoMany" []),some .none,none,none]) ?a1]
      case a1=>
        show tryF 6 exNames H_l_right_0 (setX 5 _ (FX_p_farthest_first [wObj n T,.int m,.int f])) = _
        rw [ffX_many c1,setX_exc,tryF_ex (ρ':=[some (eT n T),some (wObj n T),some (.int m),some (.int f),some (excD "NoMany" []),some .none,some (excD "NoMany" []),none]) (by decide +kernel) rfl]
        rfl
      rw [seqF_rt (d:=.bool true)]
      show condO (testD (ltD (.int m) (.int 1))) ((bind2 (F_l_which [excD "NoMany" []]) (some (.int 0)) eqD).map Out.rt) _ = _
      rw [ltD_ok,decide_eq_true c1,which_many]
      rfl
    · have hm:1 ≤ m:=by (clear hs hn h1; omega)
      have t1:∀ (r4 r5:Option PyData),condO (testD (bind2 ((([some (eT n T),some (wObj n T),some (.int m),some (.int f),r4,r5,none,none]:Rho)[2]?).join) (some (.int 1)) ltD)) ((bind2 ((consD ((([some (eT n T),some (wObj n T),some (.int m),some (.int f),r4,r5,none,none]:Rho)[4]?).join) (some [])).bind F_l_which) (some (.int 0)) eqD).map Out.rt) (some (.nx [some (eT n T),some (wObj n T),some (.int m),some (.int f),r4,r5,none,none])) = some (Out.nx [some (eT n T),some (wObj n T),some (.int m),some (.int f),r4,r5,none,none]):=fun r4 r5=>by
        show condO (testD (ltD (.int m) (.int 1))) _ _ = _
        rw [ltD_ok,decide_eq_false c1]
        rfl
      by_cases c2:f < 0 ∨ (n:Nat) ≤ f
      · rw [seqF_nx (ρ':=[some (eT n T),some (wObj n T),some (.int m),some (.int f),some (excD "NoThing" [.str "thing",.int f]),some .none,none,none]) ?a2]
        case a2=>
          show tryF 6 exNames H_l_right_0 (setX 5 _ (FX_p_farthest_first [wObj n T,.int m,.int f])) = _
          rw [ffX_thing hm c2 hs,setX_exc,tryF_ex (ρ':=[some (eT n T),some (wObj n T),some (.int m),some (.int f),some (excD "NoThing" [.str "thing",.int f]),some .none,some (excD "NoThing" [.str "thing",.int f]),none]) (by kernel_rfl) rfl]
          rfl
        rw [seqF_nx (t1 _ _),seqF_rt (d:=.bool true)]
        show condO (orB (testD (ltD (.int f) (.int 0))) (testD (bind2 (some (.int f)) (lenD [eT n T]) geD))) ((andV (bind2 (F_l_which [excD "NoThing" [.str "thing",.int f]]) (some (.int 10)) eqD) (andV ((consD (fldXD exNames "thing" (excD "NoThing" [.str "thing",.int f])) (some [])).bind F_l_whole) (bind2 (fldXD exNames "thing" (excD "NoThing" [.str "thing",.int f])) (some (.int f)) eqD))).map Out.rt) _ = _
        rw [which_thing,fldX_thing,lenD_eT,bind2_ss,bind2_ss,bind2_ss,ltD_ok,geD_ok,eqD_int,eqD_int,testD_s,testD_s,consD_ss,Option.bind_some,whole_eq,show (f == f) = true from by simp]
        rw [show orB (some (decide (f < 0))) (some (decide (((n:Nat):Int) ≤ f))) = some true from by
          rcases c2 with z | z
          · rw [decide_eq_true z]; rfl
          · rw [decide_eq_true z]; cases decide (f < 0) <;> rfl]
        rfl
      · obtain ⟨g,rfl⟩:∃ g:Nat,f = (g:Nat):=⟨f.toNat,by (clear t1 hm c1 hs hn h1; omega)⟩
        have hg:g < n:=by (clear t1 hs hm c1 hn h1; omega)
        have ok:=(pok1 hg).itr h1 G m n
        have hl:=ok.len
        have eF:=ffX_ok G h1 hn hm hg
        have ed:=due_eq (m:=m) G h1 hn hg
        generalize itr n T m n [g] = P at ok hl eF ed
        rw [seqF_nx (ρ':=[some (eT n T),some (wObj n T),some (.int m),some (.int (g:Nat)),some .none,some (encN P),none,none]) ?a3]
        case a3=>
          show tryF 6 exNames H_l_right_0 (setX 5 _ (FX_p_farthest_first [wObj n T,.int m,.int (g:Nat)])) = _
          rw [eF]
          rfl
        rw [seqF_nx (t1 _ _)]
        rw [seqF_nx (ρ':=[some (eT n T),some (wObj n T),some (.int m),some (.int (g:Nat)),some .none,some (encN P),none,none]) ?a4]
        case a4=>
          show condO (orB (testD (ltD (.int (g:Nat)) (.int 0))) (testD (bind2 (some (.int (g:Nat))) (lenD [eT n T]) geD))) _ _ = _
          rw [lenD_eT,bind2_ss,ltD_ok,geD_ok,decide_eq_false (by (clear hl hg c2 t1 hs hm c1 hn h1; omega)),decide_eq_false (by (clear hl hg t1 hs hm c1 hn h1; omega))]
          rfl
        rw [seqF_nx (ρ':=[some (eT n T),some (wObj n T),some (.int m),some (.int (g:Nat)),some .none,some (encN P),none,none]) ?a5]
        case a5=>
          show condO (orB (some false) (orB (some false) (testD (bind2 ((compO (setS 0) I_l_right_1 E_l_right_2 (listD (encN P)) [none]).map PyData.list) (some (.list [])) neD)))) _ _ = _
          rw [none_bad P (by (clear hg c2 t1 hs hm c1 h1; omega))]
          rfl
        rw [seqF_nx (ρ':=[some (eT n T),some (wObj n T),some (.int m),some (.int (g:Nat)),some .none,some (encN P),none,some (encN P)]) ?a6]
        case a6=>
          show setO 7 _ (F_l_due [eT n T,.int m,.int (g:Nat)]) = _
          rw [ed]
          rfl
        rw [seqF_nx (ρ':=[some (eT n T),some (wObj n T),some (.int m),some (.int (g:Nat)),some .none,some (encN P),none,some (encN P)]) ?a7]
        case a7=>
          show condO (testD (neD (encN P) (encN P))) _ _ = _
          rw [neD_N]
          rfl
        rw [seqF_nx (ρ':=[some (eT n T),some (wObj n T),some (.int m),some (.int (g:Nat)),some .none,some (.list []),none,some (encN P)]) ?a8]
        case a8=>
          rw [clrP_nil (ds:=P.map fun x=>PyData.int (x:Nat)) rfl]
          rfl
        show (bind2 (pureX FX_p_farthest_first [wObj n T,.int m,.int (g:Nat)]) (some (encN P)) eqD).map Out.rt = _
        unfold pureX
        rw [eF]
        show (eqD (encN P) (encN P)).map Out.rt = _
        rw [eqD_N]
        rfl
  show outD (B_l_right [some (eT n T),some (wObj n T),some (.int m),some (.int f),none,none,none,none]) = _
  rw [q]
  rfl
theorem log_small {f:Int} (h:f.natAbs < 2 ^ 200):f.natAbs.log2 < 1920:=by
  by_cases h0:f.natAbs = 0
  · rw [h0]; decide
  · exact Nat.lt_trans ((Nat.log2_lt h0).mpr h) (by decide)
theorem fst_is {n:Nat} {T:Nat → Nat → Int} (h1:1 ≤ n) (hn:n ≤ 12) {x:Int} (hx:0 ≤ x ∧ x < 1000003) (x0 x1 x3 x4 x5 x7 x8:Option PyData):∃ f:Int,f.natAbs.log2 < 1920 ∧
    (fun ρ:Rho=>condO (testD (bind2 (bind2 ((ρ[6]?).join) (some (.int 4)) modD) (some (.int 1)) eqD)) (setO 9 ρ ((bind2 ((shortL (consD ((consD ((ρ[2]?).join) (some [])).bind lenD) (consD ((some (.int 1)).bind negD) (consD (bind2 (bind2 (some (.int 10)) (some (.int 29)) powD) ((ρ[6]?).join) addD) (consD (bind2 ((bind2 (some (.int 10)) (some (.int 29)) powD).bind negD) ((ρ[6]?).join) subD) (some [])))))).map .list) (bind2 (bind2 ((ρ[6]?).join) (some (.int 4)) fdivD) (some (.int 4)) modD) ixD).filter lf)) (some (.nx ρ))) [x0,x1,some (eT n T),x3,x4,x5,some (.int x),x7,x8,some (.int (x / 4 % (n:Nat)))] = some (.nx [x0,x1,some (eT n T),x3,x4,x5,some (.int x),x7,x8,some (.int f)]):=by
  obtain ⟨f,hf,e⟩:=pick [(n:Nat),-1,10 ^ 29 + x,-(10 ^ 29) - x] (k:=x / 4 % 4) (Int.emod_nonneg _ (by decide)) (Int.emod_lt_of_pos _ (by decide))
  have hn0:(0:Int) < (n:Nat):=by (clear hx hn; omega)
  have hs:f.natAbs < 2 ^ 200:=by
    rcases List.mem_cons.mp hf with rfl | hf
    · (clear hn0 hx h1; omega)
    rcases List.mem_cons.mp hf with rfl | hf
    · decide
    rcases List.mem_cons.mp hf with rfl | hf
    · (clear hn0 hn h1; omega)
    rw [List.mem_singleton.mp hf]
    (clear hn0 hn h1; omega)
  have hm:=Int.emod_nonneg (x / 4) (Int.ne_of_gt hn0)
  have hm2:=Int.emod_lt_of_pos (x / 4) hn0
  refine ⟨if x % 4 = 1 then f else x / 4 % (n:Nat),?_,?_⟩
  · split
    · exact log_small hs
    · exact log_small (by clear hf hs e; (clear hn0 hx h1; omega))
  · show condO (testD (bind2 (modD (.int x) (.int 4)) (some (.int 1)) eqD)) (setO 9 _ ((bind2 ((shortL (consD (lenD [eT n T]) (some [.int (-1),.int (10 ^ 29 + x),.int (-(10 ^ 29) - x)]))).map .list) (bind2 (fdivD (.int x) (.int 4)) (some (.int 4)) modD) ixD).filter lf)) _ = _
    rw [modD_ok (by decide),bind2_ss,eqD_int]
    by_cases c:x % 4 = 1
    · rw [if_pos c,c,lenD_eT,fdivD_ok (by decide) rfl,bind2_ss,modD_ok (by decide)]
      show condO (some true) (setO 9 _ ((ixD (.list ([((n:Nat):Int),-1,10 ^ 29 + x,-(10 ^ 29) - x].map .int)) (.int (x / 4 % 4))).filter lf)) _ = _
      rw [e]
      rfl
    · rw [if_neg c,beq_eq_false_iff_ne.mpr c]
      rfl
theorem law_body {n:Nat} {T:Nat → Nat → Int} (G:Good n T) (h1:1 ≤ n) (hn:n ≤ 12) {ds:List Int} (hl:2 ≤ ds.length) (hd:dgOk ds) (x0 x1 x5 x6 x7 x8 x9:Option PyData) :
    ∃ y6 y7 y8 y9,L_law_1 [x0,x1,some (eT n T),some (wObj n T),some (.list (ds.map .int)),x5,x6,x7,x8,x9] = some (.nx [x0,x1,some (eT n T),some (wObj n T),some (.list (ds.dropLast.dropLast.map .int)),x5,y6,y7,y8,y9]):=by
  obtain ⟨k,hk⟩:∃ k,ds.length = k + 1 + 1:=⟨ds.length - 2,by (clear hn h1; omega)⟩
  obtain ⟨ne1,l1⟩:=drop_ne hk
  obtain ⟨ne2,_⟩:=drop_ne l1
  have e1:=pop_i (i:=4) ne1 (ρ:=[x0,x1,some (eT n T),some (wObj n T),some (.list (ds.map .int)),x5,x6,x7,x8,x9]) rfl
  have bx:=dg_last ne1 hd
  generalize ds.getLast ne1 = x at e1 bx
  obtain ⟨j,hj,ej⟩:=pick [0,1,0,1,0,1,2,3] (k:=x % 8) (Int.emod_nonneg _ (by decide)) (Int.emod_lt_of_pos _ (by decide))
  have hj:=(by decide:∀ x ∈ [(0:Int),1,0,1,0,1,2,3],0 ≤ x ∧ x < 4) j hj
  obtain ⟨m,_,em⟩:=pick [x / 8 % 15 - 1,x / 8 % 5 + 1,10 ^ 29 + x,-(10 ^ 29)] (k:=j) hj.1 hj.2
  have e2:=pop_i (i:=4) ne2 (ρ:=[x0,x1,some (eT n T),some (wObj n T),some (.list (ds.dropLast.map .int)),x5,some (.int x),some (.list [.int (x / 8 % 15 - 1),.int (x / 8 % 5 + 1),.int (10 ^ 29 + x),.int (-(10 ^ 29))]),some (.int m),x9]) rfl
  have by':=dg_last ne2 (dg_drop hd)
  generalize ds.dropLast.getLast ne2 = y at e2 by'
  obtain ⟨f,hf,ef⟩:=fst_is (T:=T) h1 hn by' x0 x1 (some (wObj n T)) (some (.list (ds.dropLast.dropLast.map .int))) x5 (some (.list [.int (x / 8 % 15 - 1),.int (x / 8 % 5 + 1),.int (10 ^ 29 + x),.int (-(10 ^ 29))])) (some (.int m))
  refine ⟨some (.int y),some (.list [.int (x / 8 % 15 - 1),.int (x / 8 % 5 + 1),.int (10 ^ 29 + x),.int (-(10 ^ 29))]),some (.int m),some (.int f),?_⟩
  unfold L_law_1
  rw [seqF_nx (ρ':=[x0,x1,some (eT n T),some (wObj n T),some (.list (ds.dropLast.map .int)),x5,some (.int x),x7,x8,x9]) ?a1]
  case a1=>rw [e1]; rfl
  rw [seqF_nx (ρ':=[x0,x1,some (eT n T),some (wObj n T),some (.list (ds.dropLast.map .int)),x5,some (.int x),some (.list [.int (x / 8 % 15 - 1),.int (x / 8 % 5 + 1),.int (10 ^ 29 + x),.int (-(10 ^ 29))]),x8,x9]) ?a2]
  case a2=>
    show setO 7 _ ((shortL (consD (bind2 (bind2 (fdivD (.int x) (.int 8)) (some (.int 15)) modD) (some (.int 1)) subD) (consD (bind2 (bind2 (fdivD (.int x) (.int 8)) (some (.int 5)) modD) (some (.int 1)) addD) (some [.int (10 ^ 29 + x),.int (-(10 ^ 29))])))).map PyData.list) = _
    rw [fdivD_ok (by decide) rfl,bind2_ss,bind2_ss,modD_ok (by decide),modD_ok (by decide)]
    rfl
  rw [seqF_nx (ρ':=[x0,x1,some (eT n T),some (wObj n T),some (.list (ds.dropLast.map .int)),x5,some (.int x),some (.list [.int (x / 8 % 15 - 1),.int (x / 8 % 5 + 1),.int (10 ^ 29 + x),.int (-(10 ^ 29))]),some (.int m),x9]) ?a3]
  case a3=>
    show setO 8 _ ((bind2 (some (.list [.int (x / 8 % 15 - 1),.int (x / 8 % 5 + 1),.int (10 ^ 29 + x),.int (-(10 ^ 29))])) (bind2 (some (.list [.int 0,.int 1,.int 0,.int 1,.int 0,.int 1,.int 2,.int 3])) (modD (.int x) (.int 8)) ixD) ixD).filter lf) = _
    rw [modD_ok (by decide),bind2_ss]
    exact (congrArg (fun o:Option PyData=>setO 8 _ ((bind2 (some (.list [.int (x / 8 % 15 - 1),.int (x / 8 % 5 + 1),.int (10 ^ 29 + x),.int (-(10 ^ 29))])) o ixD).filter lf)) ej).trans (congrArg (fun o:Option PyData=>setO 8 [x0,x1,some (eT n T),some (wObj n T),some (.list (ds.dropLast.map .int)),x5,some (.int x),some (.list [.int (x / 8 % 15 - 1),.int (x / 8 % 5 + 1),.int (10 ^ 29 + x),.int (-(10 ^ 29))]),x8,x9] (o.filter lf)) em)
  rw [seqF_nx (ρ':=[x0,x1,some (eT n T),some (wObj n T),some (.list (ds.dropLast.dropLast.map .int)),x5,some (.int y),some (.list [.int (x / 8 % 15 - 1),.int (x / 8 % 5 + 1),.int (10 ^ 29 + x),.int (-(10 ^ 29))]),some (.int m),x9]) ?a4]
  case a4=>rw [e2]; rfl
  rw [seqF_nx (ρ':=[x0,x1,some (eT n T),some (wObj n T),some (.list (ds.dropLast.dropLast.map .int)),x5,some (.int y),some (.list [.int (x / 8 % 15 - 1),.int (x / 8 % 5 + 1),.int (10 ^ 29 + x),.int (-(10 ^ 29))]),some (.int m),some (.int (y / 4 % (n:Nat)))]) ?a5]
  case a5=>
    show setO 9 _ (bind2 (fdivD (.int y) (.int 4)) (lenD [eT n T]) modD) = _
    rw [fdivD_ok (by decide) rfl,lenD_eT,bind2_ss,modD_ok (by (clear ef hf by' hj bx l1 hk hl hn; omega))]
    rfl
  rw [seqF_nx ef]
  show condO ((testD (F_l_right [eT n T,wObj n T,.int m,.int f])).map not) _ _ = _
  rw [right_eq G h1 hn m f hf]
  rfl
theorem rows_back {n:Nat} (hn:n ≤ 12) (T:Nat → Nat → Int):(compO (setS 0) (fun _=>some true) E_law_2 (tupD (encTT n T)) [none]).map PyData.list = some (eT n T):=by
  rw [tupD_tt,compO_s (by rw [tt_len]; omega)]
  rw [compD_map (S:=setS 0) (fe:=E_law_2) encTr encR (fun r=>r) (fun ρ=>∃ a,ρ = [a]) (fun _=>True) (fun r ρ _ ⟨a,e⟩=>⟨[some (encTr r)],by rw [e]; rfl,⟨_,rfl⟩,rfl⟩) (mkT n T) [none] ⟨_,rfl⟩ fun _ _=>trivial,List.map_id']
  rfl
theorem rows_copy {n:Nat} (hn:n ≤ 12) (T:Nat → Nat → Int):(compO (setS 0) (fun _=>some true) E_law_0 (listD (eT n T)) [none]).map PyData.list = some (eT n T):=by
  show (compO (setS 0) (fun _=>some true) E_law_0 (some ((mkT n T).map encR)) [none]).map PyData.list = _
  rw [compO_s (mkT_12 hn T)]
  rw [compD_map (S:=setS 0) (fe:=E_law_0) encR encR (fun r=>r) (fun ρ=>∃ a,ρ = [a]) (fun _=>True) (fun r ρ _ ⟨a,e⟩=>⟨[some (encR r)],by rw [e]; rfl,⟨_,rfl⟩,rfl⟩) (mkT n T) [none] ⟨_,rfl⟩ fun _ _=>trivial,List.map_id']
  rfl
theorem main (ns:List Int) (hl:ns.length ≤ 63):F_law [.list (ns.map .int)] = some (.bool true):=by
  obtain ⟨ds0,a1,a2,e0⟩:=digits_eq ns 0 hl (by decide)
  obtain ⟨n,T,rest,h10,M,eTb⟩:=table_eq a1 a2 (most:=10) (by decide) (by decide)
  obtain ⟨ds,b1,b2,e1⟩:=digits_eq ns 1 hl (by decide)
  have h1:=h10.1
  have hn:n ≤ 12:=by (clear h1 b1 a1 hl; omega)
  obtain ⟨es,t,_,el⟩:=forD_rng (k:=5) (F:=L_law_1) (α:=List Int) (fun k es=>es.length + 2 * k = 120 ∧ dgOk es) (fun _ es t=>[some (.list (ns.map .int)),some (.list rest),some (eT n T),some (wObj n T),some (.list (es.map .int)),t 0,t 1,t 2,t 3,t 4]) 6 ds (fun _=>none) ⟨b1,b2⟩ fun i es t hi g=>by
    have g1:=g.1
    obtain ⟨y6,y7,y8,y9,q⟩:=law_body M.g h1 hn (ds:=es) (by (clear g1 hn h1 b1 h10 a1 hl; omega)) g.2 (some (.list (ns.map .int))) (some (.list rest)) (some (.int (i:Nat))) (t 1) (t 2) (t 3) (t 4)
    refine ⟨es.dropLast.dropLast,fun j=>[some (.int (i:Nat)),y6,y7,y8,y9].getD j none,⟨?_,dg_drop (dg_drop g.2)⟩,?_⟩
    · rw [List.length_dropLast,List.length_dropLast]
      (clear g1 hn h1 b1 h10 a1 hl; omega)
    · exact q
  have q:B_law [some (.list (ns.map .int)),none,none,none,none,none,none,none,none,none] = some (.rt (.bool true)):=by
    unfold B_law
    rw [seqF_nx (ρ':=[some (.list (ns.map .int)),some (.list (ds0.map .int)),none,none,none,none,none,none,none,none]) ?s1]
    case s1=>
      show setO 1 _ (F_l_digits [.list (ns.map .int),.int ((0:Nat):Int),.int 2]) = _
      rw [e0]
      rfl
    rw [seqF_nx (ρ':=[some (.list (ns.map .int)),some (.list rest),some (eT n T),none,none,none,none,none,none,none]) ?s2]
    case s2=>
      show setEff 2 ((FI_l_table_by [.list (ds0.map .int),.int 1,.int 10]).map _) = _
      rw [eTb]
      rfl
    rw [seqF_nx (ρ':=[some (.list (ns.map .int)),some (.list rest),some (eT n T),some (wObj n T),none,none,none,none,none,none]) ?s3]
    case s3=>
      show setO 3 _ (newD "Ways" "count" "rows" FN_p_Ways (consD ((compO (setS 0) (fun _=>some true) E_law_0 (listD (eT n T)) [none]).map PyData.list) (some []))) = _
      rw [rows_copy hn,consD_ss,new_eq M h1 hn]
      rfl
    rw [seqF_nx (ρ':=[some (.list (ns.map .int)),some (.list rest),some (eT n T),some (wObj n T),some (.list (ds.map .int)),none,none,none,none,none]) ?s4]
    case s4=>
      show setO 4 _ (F_l_digits [.list (ns.map .int),.int ((1:Nat):Int),.int 2]) = _
      rw [e1]
      rfl
    rw [seqF_nx (ρ':=[some (.list (ns.map .int)),some (.list rest),some (eT n T),some (wObj n T),some (.list (es.map .int)),t 0,t 1,t 2,t 3,t 4]) ?s5]
    case s5=>exact el
    show (bind2 ((compO (setS 0) (fun _=>some true) E_law_2 ((fldD "Ways" "rows" (wObj n T)).bind tupD) [none]).map PyData.list) (some (eT n T)) eqD).map Out.rt = _
    rw [fld_rows,Option.bind_some,rows_back hn,bind2_ss,eqD_rows,decide_eq_true rfl]
    rfl
  show outD (B_law [some (.list (ns.map .int)),none,none,none,none,none,none,none,none,none]) = _
  rw [q]
  rfl
end NW
namespace NW
open PySem PySem.Spec PyProof.Rows L2
structure Txt (mg:Str → Option Value):Prop where
  m_ValueError:mg "ValueError" = none
  m_bool:mg "bool" = none
  m_enumerate:mg "enumerate" = none
  m_int:mg "int" = none
  m_isinstance:mg "isinstance" = none
  m_len:mg "len" = none
  m_list:mg "list" = none
  m_max:mg "max" = none
  m_min:mg "min" = none
  m_range:mg "range" = none
  m_reversed:mg "reversed" = none
  m_sum:mg "sum" = none
  m_tuple:mg "tuple" = none
  m_zip:mg "zip" = none
section
variable {P:Program} {w:World} {K:PySem.W.Frag} {mg:Str → Option Value} {base:Heap}
theorem sc_l_digits:FnScope ["_law_script","_law_at","_law_parts","_law_unit","_law_found","_law_first","_law_rest","_law_k"] ["_law_script","_law_at","_law_parts"] (defScope s_l_digits):=⟨rfl,rfl,rfl,by decide +kernel,rfl,by decide +kernel,by decide +kernel⟩
theorem nd_l_digits_0:(["_law_k","_law_script"]:List Str).Nodup:=by decide +kernel
theorem ok_l_digits {f:Addr} {fd:FuncData} (F:Fun K "_law_digits" "_law_digits" s_l_digits f fd) (T:Txt mg) :FnOk P w K mg base CX0 1 f fd ["_law_script","_law_at","_law_parts"] (spR K (.lst .cl) F_l_digits):=
  fn_auto (k:=0) ⟨[(4,.lst .cl)],.lst .cl⟩ F sc_l_digits (by decide) B_l_digits (fun cdv hk A outer s H E hr=>ss_cons (@s_set _ _ _ _ _ _ 3 _ _ sc_l_digits.nd rfl (Or.inl rfl) (v_sum rfl rfl T.m_sum (PFr.r (fr_comp (k:=1) (N:=["_law_k","_law_script"]) (ix:=[0])  (defScope s_l_digits) rfl ⟨rfl,rfl,by decide +kernel,by decide +kernel,by decide +kernel,rfl,by decide +kernel,rfl⟩ rfl rfl (PIv.raw (iv_rng3 rfl T.m_range (a_cons (PV.r (pv_name (pv 1))) (a_cons (PV.r (v_callB (b_min rfl) rfl T.m_min bt_min (a_cons (PV.r (v_callB (b_len) rfl T.m_len bt_len (a_cons (PV.r (pv_name (pv 0))) (a_nil)))) (a_cons (PV.r (pv_int)) (a_nil))))) (a_cons (PV.r (pv_name (pv 2))) (a_nil)))))) (fun _ _ _ _ _ _=>g_name (i:=0) nd_l_digits_0 rfl (Or.inl rfl)) (fun _ _ _ _ _ _=>if_nil) (fun _ _ _ _ _ _=>r_ix (PV.r (pv_name (pv 1))) (PV.r (pv_name (pv 0))))))) rfl rfl (by first | exact .inl rfl | exact .inr rfl | assumption)) (ss_cons (s_setO (i:=4) sc_l_digits.nd rfl (Or.inl rfl) (fc_lst (ac_nil))) (ss_cons (@s_set _ _ _ _ _ _ 5 _ _ sc_l_digits.nd rfl (Or.inl rfl) (v_mod (PV.r (v_add (PV.r (v_mul (PV.r (pv_name (pv 3))) (PV.r (pv_int)))) (PV.r (pv_int)))) (PV.r (pv_int))) rfl rfl (by first | exact .inl rfl | exact .inr rfl | assumption)) (ss_cons (@s_set _ _ _ _ _ _ 6 _ _ sc_l_digits.nd rfl (Or.inl rfl) (v_mul (PV.r (pv_name (pv 3))) (PV.r (v_callT (b_int) rfl T.m_int bt_int (a_cons (PV.r (v_cmp c_ge (PV.r (pv_name (pv 3))) (PV.r (v_pow (PV.r (pv_int)) (PV.r (pv_int)))))) (a_nil))))) rfl rfl (by first | exact .inl rfl | exact .inr rfl | assumption)) (ss_cons (s_for rfl (iv_rng1 rfl T.m_range (a_cons (PV.r (pv_int)) (a_nil))) (g_name (i:=7) sc_l_digits.nd rfl (Or.inl rfl)) (ss_cons (@s_set _ _ _ _ _ _ 5 _ _ sc_l_digits.nd rfl (Or.inl rfl) (v_mod (PV.r (v_add (PV.r (v_add (PV.r (v_mul (PV.r (pv_name (pv 5))) (PV.r (pv_name (pv 5))))) (PV.r (pv_name (pv 3))))) (PV.r (v_mul (PV.r (pv_int)) (PV.r (pv_name (pv 7))))))) (PV.r (pv_int))) rfl rfl (by first | exact .inl rfl | exact .inr rfl | assumption)) (ss_cons (s_if (t_cmp c_gt (PV.r (pv_name (pv 6))) (PV.r (pv_int))) (ss_one (s_append (pv 4) (v_mod (PV.r (pv_name (pv 6))) (PV.r (pv_int))))) (ss_one (s_append (pv 4) (v_mod (PV.r (v_mod (PV.r (v_mul (PV.r (pv_name (pv 5))) (PV.r (pv_name (pv 5))))) (PV.r (pv_int)))) (PV.r (pv_int)))))) (ss_one (@s_set _ _ _ _ _ _ 6 _ _ sc_l_digits.nd rfl (Or.inl rfl) (v_fdiv (PV.r (pv_name (pv 6))) (PV.r (pv_int))) rfl rfl (by first | exact .inl rfl | exact .inr rfl | assumption))))) PassesOwn.never) (ss_one (s_retO (PFt.rt (PFc.ft (PFr.cf (fr_listrev rfl rfl T.m_list rfl T.m_reversed (pr_name (pv 4)))))))))))))
theorem sc_l_table_by:FnScope ["_law_purse","_law_least","_law_most","_law_count","_law_size","_law_times","_law_rows","_law_i","_law_j","_law_number","_law_k"] ["_law_purse","_law_least","_law_most"] (defScope s_l_table_by):=⟨rfl,rfl,rfl,by decide +kernel,rfl,by decide +kernel,by decide +kernel⟩
theorem nd_l_table_by_0:(["_law_i","_law_count"]:List Str).Nodup:=by decide +kernel
theorem ok_l_table_by {f:Addr} {fd:FuncData} (F:Fun K "_law_table_by" "_law_table_by" s_l_table_by f fd) (T:Txt mg) :FnOk P w K mg base CX0 1 f fd ["_law_purse","_law_least","_law_most"] (spIO K 0 (.lst (.lst .cl)) FI_l_table_by):=
  fn_autoI (k:=0) (fun l=>⟨[(0,.io l),(6,.lst (.lst .cl))],.lst (.lst .cl)⟩) F sc_l_table_by (fun _=>rfl) (fun _=>rfl) [0,6] (fun _=>rfl) (by decide) B_l_table_by (fun l cdv hk A outer s H E hr=>ss_consI (s_setX (i:=3) sc_l_table_by.nd rfl (Or.inr rfl) (x_addR (pv_name (pv 1)) (x_modL (x_popI (pv 0)) (PV.r (v_add (PV.r (v_sub (PV.r (pv_name (pv 2))) (PV.r (pv_name (pv 1))))) (PV.r (pv_int))))))) (ss_consI (s_setX (i:=4) sc_l_table_by.nd rfl (Or.inl rfl) (x_ix (PFc.v (fc_lst (ac_cons (pv_int) (ac_cons (pv_int) (ac_cons (pv_int) (ac_cons (v_pow (PV.r (pv_int)) (PV.r (pv_int))) (ac_nil))))))) (x_modL (x_popI (pv 0)) (PV.r (pv_int))))) (ss_consI (s_setX (i:=5) sc_l_table_by.nd rfl (Or.inl rfl) (x_ix (PFc.v (fc_lst (ac_cons (pv_int) (ac_cons (pv_int) (ac_cons (pv_int) (ac_cons (v_add (PV.r (v_pow (PV.r (pv_int)) (PV.r (pv_int)))) (PV.r (pv_int))) (ac_nil))))))) (x_modL (x_popI (pv 0)) (PV.r (pv_int))))) (ss_consI (s_setCF (i:=6)  (k:=1) (N:=["_law_i","_law_count"]) (ix:=[3]) sc_l_table_by.nd rfl (Or.inl rfl) (defScope s_l_table_by) rfl ⟨rfl,rfl,by decide +kernel,by decide +kernel,by decide +kernel,rfl,by decide +kernel,rfl⟩ rfl rfl (PIv.raw (iv_rng1 rfl T.m_range (a_cons (PV.r (pv_name (pv 3))) (a_nil)))) (fun _ _ _ _ _ _=>g_name (i:=0) nd_l_table_by_0 rfl (Or.inl rfl)) (fun _ _ _ _ _ _=>if_nil) (fun _ _ _ _ _ _=>PFc.ft (PFr.cz (fr_rep (fr_lst (a_cons (PV.r (pv_int)) (a_nil))) (PV.r (pv_name (pv 1))))))) (ss_consI (s_for rfl (iv_rng1 rfl T.m_range (a_cons (PV.r (pv_name (pv 3))) (a_nil))) (g_name (i:=7) sc_l_table_by.nd rfl (Or.inl rfl)) (ss_one (s_for rfl (iv_rng1 rfl T.m_range (a_cons (PV.r (pv_name (pv 7))) (a_nil))) (g_name (i:=8) sc_l_table_by.nd rfl (Or.inl rfl)) (ss_cons (s_setX (i:=9) sc_l_table_by.nd rfl (Or.inl rfl) (x_mulL (x_modL (x_popI (pv 0)) (PV.r (pv_name (pv 4)))) (PV.r (pv_name (pv 5))))) (ss_cons (s_putP (at_ix (pv 6) (PV.r (pv_name (pv 7)))) (PV.r (pv_name (pv 8))) (pv_name (pv 9))) (ss_one (s_putP (at_ix (pv 6) (PV.r (pv_name (pv 8)))) (PV.r (pv_name (pv 7))) (pv_name (pv 9)))))) PassesOwn.never)) PassesOwn.never) (ss_consI (s_for rfl (iv_rng1 rfl T.m_range (a_cons (PV.r (pv_name (pv 3))) (a_nil))) (g_name (i:=10) sc_l_table_by.nd rfl (Or.inl rfl)) (ss_one (s_for rfl (iv_rng1 rfl T.m_range (a_cons (PV.r (pv_name (pv 3))) (a_nil))) (g_name (i:=7) sc_l_table_by.nd rfl (Or.inl rfl)) (ss_one (s_for rfl (iv_rng1 rfl T.m_range (a_cons (PV.r (pv_name (pv 3))) (a_nil))) (g_name (i:=8) sc_l_table_by.nd rfl (Or.inl rfl)) (ss_one (s_putP (at_ix (pv 6) (PV.r (pv_name (pv 7)))) (PV.r (pv_name (pv 8))) (v_callB (b_min rfl) rfl T.m_min bt_min (a_cons (r_ix (r_ix (pr_name (pv 6)) (PV.r (pv_name (pv 7)))) (PV.r (pv_name (pv 8)))) (a_cons (PV.r (v_add (r_ix (r_ix (pr_name (pv 6)) (PV.r (pv_name (pv 7)))) (PV.r (pv_name (pv 10)))) (r_ix (r_ix (pr_name (pv 6)) (PV.r (pv_name (pv 10)))) (PV.r (pv_name (pv 8)))))) (a_nil)))))) PassesOwn.never)) PassesOwn.never)) PassesOwn.never) (ss_retI (j:=0) (rt_name (pv 6)))))))))
theorem sc_p_check_counts:FnScope ["rows","number","row"] ["rows"] (defScope s_p_check_counts):=⟨rfl,rfl,rfl,by decide +kernel,rfl,by decide +kernel,by decide +kernel⟩
theorem ok_p_check_counts {f:Addr} {fd:FuncData} (F:Fun K "check_counts" "check_counts" s_p_check_counts f fd) (T:Txt mg) :FnOk P w K mg base CX0 1 f fd ["rows"] (spR K (.cl) F_p_check_counts):=
  fn_auto (k:=0) ⟨[],.cl⟩ F sc_p_check_counts (by decide) B_p_check_counts (fun cdv hk A outer s H E hr=>ss_cons (s_if (t_cmp (c_eq hr.units) (PV.r (v_callB (b_len) rfl T.m_len bt_len (a_cons (PV.r (pv_name (pv 0))) (a_nil)))) (PV.r (pv_int))) (ss_one (s_never)) (ss_nil)) (ss_one (s_for rfl (iv_enumT rfl T.m_enumerate (pv_name (pv 0))) (g_tup rfl (gs_cons (g_name (i:=1) sc_p_check_counts.nd rfl (Or.inl rfl)) (gs_cons (g_name (i:=2) sc_p_check_counts.nd rfl (Or.inl rfl)) (gs_nil)))) (ss_one (s_if (t_cmp (c_ne hr.units) (PV.r (v_callB (b_len) rfl T.m_len bt_len (a_cons (PV.r (pv_name (pv 2))) (a_nil)))) (PV.r (v_callB (b_len) rfl T.m_len bt_len (a_cons (PV.r (pv_name (pv 0))) (a_nil))))) (ss_one (s_never)) (ss_nil))) PassesOwn.never)))
theorem sc_p_is_row_right:FnScope ["rows","number","place","way"] ["rows","number"] (defScope s_p_is_row_right):=⟨rfl,rfl,rfl,by decide +kernel,rfl,by decide +kernel,by decide +kernel⟩
theorem ok_p_is_row_right {f:Addr} {fd:FuncData} (F:Fun K "is_row_right" "is_row_right" s_p_is_row_right f fd) (T:Txt mg) :FnOk P w K mg base CX0 1 f fd ["rows","number"] (spR K (.cl) F_p_is_row_right):=
  fn_auto (k:=0) ⟨[],.cl⟩ F sc_p_is_row_right (by decide) B_p_is_row_right (fun cdv hk A outer s H E hr=>ss_cons (s_if (t_cmp (c_ne hr.units) (r_ix (r_ix (PV.r (pv_name (pv 0))) (PV.r (pv_name (pv 1)))) (PV.r (pv_name (pv 1)))) (PV.r (pv_int))) (ss_one (s_ret (PV.r (pv_bl)))) (ss_nil)) (ss_cons (s_for rfl (iv_enumT rfl T.m_enumerate (PR.cl0 (r_ix (PV.r (pv_name (pv 0))) (PV.r (pv_name (pv 1)))))) (g_tup rfl (gs_cons (g_name (i:=2) sc_p_is_row_right.nd rfl (Or.inl rfl)) (gs_cons (g_name (i:=3) sc_p_is_row_right.nd rfl (Or.inl rfl)) (gs_nil)))) (ss_one (s_if (t_w (w_or (t_cmp c_lt (PV.r (pv_name (pv 3))) (PV.r (pv_int))) (w_or1 (t_cmp (c_ne hr.units) (PV.r (pv_name (pv 3))) (r_ix (r_ix (PV.r (pv_name (pv 0))) (PV.r (pv_name (pv 2)))) (PV.r (pv_name (pv 1)))))))) (ss_one (s_ret (PV.r (pv_bl)))) (ss_nil))) PassesOwn.never) (ss_one (s_ret (PV.r (pv_bl))))))
theorem sc_p_check_numbers:FnScope ["rows","number"] ["rows"] (defScope s_p_check_numbers):=⟨rfl,rfl,rfl,by decide +kernel,rfl,by decide +kernel,by decide +kernel⟩
theorem ok_p_check_numbers {f:Addr} {fd:FuncData} (F:Fun K "check_numbers" "check_numbers" s_p_check_numbers f fd) (T:Txt mg) (G_p_is_row_right:DefOk P w K mg base 1 "is_row_right" ["rows","number"] (.cl) F_p_is_row_right):FnOk P w K mg base CX0 2 f fd ["rows"] (spR K (.cl) F_p_check_numbers):=
  fn_auto (k:=1) ⟨[],.cl⟩ F sc_p_check_numbers (by decide) B_p_check_numbers (fun cdv hk A outer s H E hr=>ss_one (s_for rfl (iv_rng1 rfl T.m_range (a_cons (PV.r (v_callB (b_len) rfl T.m_len bt_len (a_cons (PV.r (pv_name (pv 0))) (a_nil)))) (a_nil))) (g_name (i:=1) sc_p_check_numbers.nd rfl (Or.inl rfl)) (ss_one (s_if (t_not (t_val (r_callD G_p_is_row_right (hr.mono (by decide)) rfl (a_cons (PV.r (pv_name (pv 0))) (a_cons (PV.r (pv_name (pv 1))) (a_nil)))))) (ss_one (s_never)) (ss_nil))) PassesOwn.never))
theorem sc_p_check_ways_round:FnScope ["rows","i","row","j","way","k","rest"] ["rows"] (defScope s_p_check_ways_round):=⟨rfl,rfl,rfl,by decide +kernel,rfl,by decide +kernel,by decide +kernel⟩
theorem ok_p_check_ways_round {f:Addr} {fd:FuncData} (F:Fun K "check_ways_round" "check_ways_round" s_p_check_ways_round f fd) (T:Txt mg) :FnOk P w K mg base CX0 1 f fd ["rows"] (spR K (.cl) F_p_check_ways_round):=
  fn_auto (k:=0) ⟨[],.cl⟩ F sc_p_check_ways_round (by decide) B_p_check_ways_round (fun cdv hk A outer s H E hr=>ss_one (s_for rfl (iv_enumT rfl T.m_enumerate (pv_name (pv 0))) (g_tup rfl (gs_cons (g_name (i:=1) sc_p_check_ways_round.nd rfl (Or.inl rfl)) (gs_cons (g_name (i:=2) sc_p_check_ways_round.nd rfl (Or.inl rfl)) (gs_nil)))) (ss_one (s_for rfl (iv_enumT rfl T.m_enumerate (pv_name (pv 2))) (g_tup rfl (gs_cons (g_name (i:=3) sc_p_check_ways_round.nd rfl (Or.inl rfl)) (gs_cons (g_name (i:=4) sc_p_check_ways_round.nd rfl (Or.inl rfl)) (gs_nil)))) (ss_one (s_for rfl (iv_enumT rfl T.m_enumerate (PR.cl0 (r_ix (PV.r (pv_name (pv 0))) (PV.r (pv_name (pv 3)))))) (g_tup rfl (gs_cons (g_name (i:=5) sc_p_check_ways_round.nd rfl (Or.inl rfl)) (gs_cons (g_name (i:=6) sc_p_check_ways_round.nd rfl (Or.inl rfl)) (gs_nil)))) (ss_one (s_if (t_cmp c_gt (r_ix (PV.r (pv_name (pv 2))) (PV.r (pv_name (pv 5)))) (PV.r (v_add (PV.r (pv_name (pv 4))) (PV.r (pv_name (pv 6)))))) (ss_one (s_never)) (ss_nil))) PassesOwn.never)) PassesOwn.never)) PassesOwn.never))
theorem sc_p_Ways:FnScope ["self","table","rows"] ["self","table"] (defScope s_p_Ways):=⟨rfl,rfl,rfl,by decide +kernel,rfl,by decide +kernel,by decide +kernel⟩
theorem nd_p_Ways_0:(["row"]:List Str).Nodup:=by decide +kernel
theorem ok_p_Ways {f:Addr} {fd:FuncData} (F:Fun K "__init__" ("Ways" ++ ".__init__") s_p_Ways f fd) (T:Txt mg) (G_p_check_counts:DefOk P w K mg base 1 "check_counts" ["rows"] (.cl) F_p_check_counts) (G_p_check_numbers:DefOk P w K mg base 2 "check_numbers" ["rows"] (.cl) F_p_check_numbers) (G_p_check_ways_round:DefOk P w K mg base 1 "check_ways_round" ["rows"] (.cl) F_p_check_ways_round) (FO1:FldOk K "Ways" "count") (FO2:FldOk K "Ways" "rows"):FnOk P w K mg base CX0 3 f fd ["self","table"] (spNew K "Ways" "count" "rows" FN_p_Ways):=
  fn_autoN (k:=2) FO1 FO2 F sc_p_Ways B_p_Ways (fun z cdv hk A outer s H E hr=>kb_cons (k_set (i:=2) sc_p_Ways.nd rfl (Or.inl rfl) (PR.cl0 (r_tuple rfl T.m_tuple (PFr.r (fr_comp (k:=1) (N:=["row"]) (ix:=[])  (defScope s_p_Ways) rfl ⟨rfl,rfl,by decide +kernel,by decide +kernel,by decide +kernel,rfl,by decide +kernel,rfl⟩ rfl rfl (ir_list (PV.r (pv_name (pv 1)))) (fun _ _ _ _ _ _=>g_name (i:=0) nd_p_Ways_0 rfl (Or.inl rfl)) (fun _ _ _ _ _ _=>if_nil) (fun _ _ _ _ _ _=>r_tuple rfl T.m_tuple (PV.r (pv_name (pv 0))))))))) (kb_cons (k_expr (r_callD G_p_check_counts (hr.mono (by decide)) rfl (a_cons (PV.r (pv_name (pv 2))) (a_nil)))) (kb_cons (k_expr (r_callD G_p_check_numbers (hr.mono (by decide)) rfl (a_cons (PV.r (pv_name (pv 2))) (a_nil)))) (kb_cons (k_expr (r_callD G_p_check_ways_round (hr.mono (by decide)) rfl (a_cons (PV.r (pv_name (pv 2))) (a_nil)))) (kb_flds (by decide) (pv 0) (pv 0) (v_callB (b_len) rfl T.m_len bt_len (a_cons (PV.r (pv_name (pv 2))) (a_nil))) (pv 2))))))
theorem sc_l_due:FnScope ["_law_rows","_law_many","_law_first","_law_found","_law_turn","_law_far"] ["_law_rows","_law_many","_law_first"] (defScope s_l_due):=⟨rfl,rfl,rfl,by decide +kernel,rfl,by decide +kernel,by decide +kernel⟩
theorem nd_l_due_0:(["_law_row","_law_found"]:List Str).Nodup:=by decide +kernel
theorem nd_l_due_1:(["_law_post","_law_row"]:List Str).Nodup:=by decide +kernel
theorem nd_l_due_2:(["_law_thing","_law_far"]:List Str).Nodup:=by decide +kernel
theorem ok_l_due {f:Addr} {fd:FuncData} (F:Fun K "_law_due" "_law_due" s_l_due f fd) (T:Txt mg) :FnOk P w K mg base CX0 1 f fd ["_law_rows","_law_many","_law_first"] (spR K (.cl) F_l_due):=
  fn_auto (k:=0) ⟨[(3,.lst .cl)],.cl⟩ F sc_l_due (by decide) B_l_due (fun cdv hk A outer s H E hr=>ss_cons (s_setO (i:=3) sc_l_due.nd rfl (Or.inr rfl) (fc_lst (ac_cons (pv_name (pv 2)) (ac_nil)))) (ss_cons (s_for rfl (iv_rng1 rfl T.m_range (a_cons (PV.r (v_callB (b_len) rfl T.m_len bt_len (a_cons (PV.r (pv_name (pv 0))) (a_nil)))) (a_nil))) (g_name (i:=4) sc_l_due.nd rfl (Or.inl rfl)) (ss_cons (@s_set _ _ _ _ _ _ 5 _ _ sc_l_due.nd rfl (Or.inr rfl) (PFc.v (PFr.cf (fr_compC (x0:="_law_row") (k:=1) (N:=["_law_row","_law_found"]) (ix:=[3])  (defScope s_l_due) rfl ⟨rfl,rfl,by decide +kernel,rfl,by decide +kernel,by decide +kernel,rfl,by decide +kernel,rfl⟩ rfl rfl (ir_list (PV.r (pv_name (pv 0)))) (fun _ _ _ _ _ _=>g_name (i:=0) nd_l_due_0 rfl (Or.inr rfl)) (fun _ _ _ _ _ _=>if_nil) (fun _ _ _ _ _ _=>PV.r (v_minL rfl rfl T.m_min (PFr.r (fr_comp (k:=1) (N:=["_law_post","_law_row"]) (ix:=[0])  ⟨.function,[(".0",.local),("_law_row",.cell),("min",.globalImplicit),("_law_found",.cell)],false,false,[]⟩ rfl ⟨rfl,rfl,by decide +kernel,by decide +kernel,by decide +kernel,rfl,by decide +kernel,rfl⟩ rfl rfl (ir_list (PV.r (pv_name (pv 1)))) (fun _ _ _ _ _ _=>g_name (i:=0) nd_l_due_1 rfl (Or.inl rfl)) (fun _ _ _ _ _ _=>if_nil) (fun _ _ _ _ _ _=>r_ix (PV.r (pv_name (pv 1))) (PV.r (pv_name (pv 0))))))))))) rfl rfl (by first | exact .inl rfl | exact .inr rfl | assumption)) (ss_one (s_if (t_w (w_and (t_cmp c_lt (PV.r (v_callB (b_len) rfl T.m_len bt_len (a_cons (pr_name (pv 3)) (a_nil)))) (PV.r (pv_name (pv 1)))) (w_and1 (t_cmp c_gt (PV.r (v_maxL rfl rfl T.m_max (PV.r (pv_name (pv 5))))) (PV.r (pv_int)))))) (ss_one (s_append (pv 3) (v_minL rfl rfl T.m_min (PFr.r (fr_comp (k:=1) (N:=["_law_thing","_law_far"]) (ix:=[5])  (defScope s_l_due) rfl ⟨rfl,rfl,by decide +kernel,by decide +kernel,by decide +kernel,rfl,by decide +kernel,rfl⟩ rfl rfl (PIv.raw (iv_rng1 rfl T.m_range (a_cons (PV.r (v_callB (b_len) rfl T.m_len bt_len (a_cons (PV.r (pv_name (pv 0))) (a_nil)))) (a_nil)))) (fun _ _ _ _ _ _=>g_name (i:=0) nd_l_due_2 rfl (Or.inl rfl)) (fun _ _ _ _ _ _=>if_one (t_cmp (c_eq hr.units) (r_ix (PV.r (pv_name (pv 1))) (PV.r (pv_name (pv 0)))) (PV.r (v_maxL rfl rfl T.m_max (PV.r (pv_name (pv 1))))))) (fun _ _ _ _ _ _=>PV.r (pv_name (pv 0)))))))) (ss_nil)))) PassesOwn.never) (ss_one (s_ret (pr_name (pv 3))))))
theorem sc_p_check_many:FnScope ["many"] ["many"] (defScope s_p_check_many):=⟨rfl,rfl,rfl,by decide +kernel,rfl,by decide +kernel,by decide +kernel⟩
theorem ok_p_check_many {f:Addr} {fd:FuncData} (F:Fun K "check_many" "check_many" s_p_check_many f fd) (T:Txt mg)  {C_NoMany:Addr} (X_NoMany:XCD K mg "NoMany" C_NoMany):FnOk P w K mg base (CXe P w) 1 f fd ["many"] (spX K (.cl) FX_p_check_many):=
  fn_autoX (k:=0) ⟨[],.cl⟩ F sc_p_check_many (by decide) BX_p_check_many (fun cdv hk A outer s H E hr=>xx_one (xx_if (t_cmp c_lt (PV.r (pv_name (pv 0))) (PV.r (pv_int))) (xx_one (xx_raise0 rfl rfl (X_NoMany.at rfl))) (xx_nil)))
theorem sc_p_is_number_of:FnScope ["things","number"] ["things","number"] (defScope s_p_is_number_of):=⟨rfl,rfl,rfl,by decide +kernel,rfl,by decide +kernel,by decide +kernel⟩
theorem ok_p_is_number_of {f:Addr} {fd:FuncData} (F:Fun K "is_number_of" "is_number_of" s_p_is_number_of f fd) (T:Txt mg) :FnOk P w K mg base CX0 1 f fd ["things","number"] (spR K (.cl) F_p_is_number_of):=
  fn_auto (k:=0) ⟨[],.cl⟩ F sc_p_is_number_of (by decide) B_p_is_number_of (fun cdv hk A outer s H E hr=>ss_one (s_ret (PV.r (v_chain c_le c_lt (PV.r (pv_int)) (PV.r (pv_name (pv 1))) (PV.r (v_callB (b_len) rfl T.m_len bt_len (a_cons (PV.r (pv_name (pv 0))) (a_nil))))))))
theorem sc_p_farthest_first:FnScope ["ways","many","first","told","nearest","thing"] ["ways","many","first"] (defScope s_p_farthest_first):=⟨rfl,rfl,rfl,by decide +kernel,rfl,by decide +kernel,by decide +kernel⟩
theorem nd_p_farthest_first_0:(["old","new"]:List Str).Nodup:=by decide +kernel
theorem ok_p_farthest_first {f:Addr} {fd:FuncData} (F:Fun K "farthest_first" "farthest_first" s_p_farthest_first f fd) (T:Txt mg) (G_p_check_many:DefX P w K mg base 1 "check_many" ["many"] (.cl) FX_p_check_many) (G_p_is_number_of:DefOk P w K mg base 1 "is_number_of" ["things","number"] (.cl) F_p_is_number_of) (FO_rows:FldOk K "Ways" "rows") (XI_NoThing:XIn P w K mg base 1 "NoThing" "thing"):FnOk P w K mg base (CXe P w) 3 f fd ["ways","many","first"] (spX K (.lst .cl) FX_p_farthest_first):=
  fn_autoX (k:=2) ⟨[(3,.lst .cl)],.lst .cl⟩ F sc_p_farthest_first (by decide) BX_p_farthest_first (fun cdv hk A outer s H E hr=>xx_cons (xx_expr (xt_call G_p_check_many (hr.mono (by decide)) rfl rfl (ac_cons (pv_name (pv 1)) (ac_nil)))) (xx_cons (xx_if (t_not (t_val (r_callD G_p_is_number_of (hr.mono (by decide)) rfl (a_cons (r_fld (cls:="Ways") FO_rows (PV.r (pv_name (pv 0)))) (a_cons (PV.r (pv_name (pv 2))) (a_nil)))))) (xx_one (xx_raiseN rfl rfl rfl XI_NoThing (hr.mono (by decide)) (pv_name (pv 2)))) (xx_nil)) (xs_lift (ss_cons (s_setO (i:=3) sc_p_farthest_first.nd rfl (Or.inl rfl) (fc_lst (ac_cons (pv_name (pv 2)) (ac_nil)))) (ss_cons (@s_set _ _ _ _ _ _ 4 _ _ sc_p_farthest_first.nd rfl (Or.inl rfl) (PFc.v (PFr.cf (fr_list rfl T.m_list (r_ix (r_fld (cls:="Ways") FO_rows (PV.r (pv_name (pv 0)))) (PV.r (pv_name (pv 2))))))) rfl rfl (by first | exact .inl rfl | exact .inr rfl | assumption)) (ss_cons (s_while (fun ρ=>64) (t_w (w_and (t_cmp c_lt (PV.r (v_callB (b_len) rfl T.m_len bt_len (a_cons (pr_name (pv 3)) (a_nil)))) (PV.r (pv_name (pv 1)))) (w_and1 (t_cmp c_gt (PV.r (v_maxL rfl rfl T.m_max (PV.r (pv_name (pv 4))))) (PV.r (pv_int)))))) (ss_cons (@s_set _ _ _ _ _ _ 5 _ _ sc_p_farthest_first.nd rfl (Or.inl rfl) (v_index (PV.r (pv_name (pv 4))) (PV.r (v_maxL rfl rfl T.m_max (PV.r (pv_name (pv 4)))))) rfl rfl (by first | exact .inl rfl | exact .inr rfl | assumption)) (ss_cons (s_append (pv 3) (pv_name (pv 5))) (ss_one (s_setCV (i:=4)  (k:=2) (N:=["old","new"]) (ix:=[]) sc_p_farthest_first.nd rfl (Or.inl rfl) (defScope s_p_farthest_first) rfl ⟨rfl,rfl,by decide +kernel,by decide +kernel,by decide +kernel,rfl,by decide +kernel,rfl⟩ rfl rfl (PIv.raw (iv_zipT rfl T.m_zip (pv_name (pv 4)) (PR.clf (r_ix (r_fld (cls:="Ways") FO_rows (PV.r (pv_name (pv 0)))) (PV.r (pv_name (pv 5))))))) (fun _ _ _ _ _ _=>g_tup rfl (gs_cons (g_name (i:=0) nd_p_farthest_first_0 rfl (Or.inl rfl)) (gs_cons (g_name (i:=1) nd_p_farthest_first_0 rfl (Or.inl rfl)) (gs_nil)))) (fun _ _ _ _ _ _=>if_nil) (fun _ _ _ _ _ _=>PV.r (v_callB (b_min rfl) rfl T.m_min bt_min (a_cons (PV.r (pv_name (pv 0))) (a_cons (PV.r (pv_name (pv 1))) (a_nil))))))))) PassesOwn.never) (ss_one (s_retO (rt_name (pv 3))))))))))
theorem sc_l_classes:FnScope ["_law_kept","_law_found"] ["_law_kept"] (defScope s_l_classes):=⟨rfl,rfl,rfl,by decide +kernel,rfl,by decide +kernel,by decide +kernel⟩
theorem ok_l_classes {f:Addr} {fd:FuncData} (F:Fun K "_law_classes" "_law_classes" s_l_classes f fd) (T:Txt mg)  {D_NoRing:Addr} (I_NoRing:IsT K mg exNames "NoRing" D_NoRing) {D_NoReach:Addr} (I_NoReach:IsT K mg exNames "NoReach" D_NoReach) {D_NoPosts:Addr} (I_NoPosts:IsT K mg exNames "NoPosts" D_NoPosts) {D_NoMany:Addr} (I_NoMany:IsT K mg exNames "NoMany" D_NoMany) {D_NoFolk:Addr} (I_NoFolk:IsT K mg exNames "NoFolk" D_NoFolk) {D_NoWord:Addr} (I_NoWord:IsT K mg exNames "NoWord" D_NoWord) {D_NoLine:Addr} (I_NoLine:IsT K mg exNames "NoLine" D_NoLine) {D_NoWay:Addr} (I_NoWay:IsT K mg exNames "NoWay" D_NoWay) {D_NoTable:Addr} (I_NoTable:IsT K mg exNames "NoTable" D_NoTable) {D_NoPost:Addr} (I_NoPost:IsT K mg exNames "NoPost" D_NoPost) {D_NoName:Addr} (I_NoName:IsT K mg exNames "NoName" D_NoName) {D_NoText:Addr} (I_NoText:IsT K mg exNames "NoText" D_NoText) {D_NoThing:Addr} (I_NoThing:IsT K mg exNames "NoThing" D_NoThing):FnOk P w K mg base CX0 1 f fd ["_law_kept"] (spR K (.cl) F_l_classes):=
  fn_auto (k:=0) ⟨[],.cl⟩ F sc_l_classes (by decide) B_l_classes (fun cdv hk A outer s H E hr=>ss_cons (@s_set _ _ _ _ _ _ 1 _ _ sc_l_classes.nd rfl (Or.inl rfl) (PFc.v (PFr.cz (fr_lst (a_cons (PV.r (v_isiC I_NoMany (PV.r (pv_name (pv 0))) rfl T.m_isinstance rfl)) (a_cons (PV.r (v_isiC I_NoPosts (PV.r (pv_name (pv 0))) rfl T.m_isinstance rfl)) (a_cons (PV.r (v_isiC I_NoReach (PV.r (pv_name (pv 0))) rfl T.m_isinstance rfl)) (a_cons (PV.r (v_isiC I_NoRing (PV.r (pv_name (pv 0))) rfl T.m_isinstance rfl)) (a_nil)))))))) rfl rfl (by first | exact .inl rfl | exact .inr rfl | assumption)) (ss_cons (@s_set _ _ _ _ _ _ 1 _ _ sc_l_classes.nd rfl (Or.inl rfl) (PFc.v (PFr.cz (fr_cat (PV.r (pv_name (pv 1))) (PFr.r (fr_lst (a_cons (PV.r (v_isiC I_NoLine (PV.r (pv_name (pv 0))) rfl T.m_isinstance rfl)) (a_cons (PV.r (v_isiC I_NoWord (PV.r (pv_name (pv 0))) rfl T.m_isinstance rfl)) (a_cons (PV.r (v_isiC I_NoFolk (PV.r (pv_name (pv 0))) rfl T.m_isinstance rfl)) (a_nil))))))))) rfl rfl (by first | exact .inl rfl | exact .inr rfl | assumption)) (ss_cons (@s_set _ _ _ _ _ _ 1 _ _ sc_l_classes.nd rfl (Or.inl rfl) (PFc.v (PFr.cz (fr_cat (PV.r (pv_name (pv 1))) (PFr.r (fr_lst (a_cons (PV.r (v_isiC I_NoPost (PV.r (pv_name (pv 0))) rfl T.m_isinstance rfl)) (a_cons (PV.r (v_isiC I_NoTable (PV.r (pv_name (pv 0))) rfl T.m_isinstance rfl)) (a_cons (PV.r (v_isiC I_NoWay (PV.r (pv_name (pv 0))) rfl T.m_isinstance rfl)) (a_nil))))))))) rfl rfl (by first | exact .inl rfl | exact .inr rfl | assumption)) (ss_one (s_ret (PFr.r (fr_cat (PV.r (pv_name (pv 1))) (PFr.r (fr_lst (a_cons (PV.r (v_isiC I_NoThing (PV.r (pv_name (pv 0))) rfl T.m_isinstance rfl)) (a_cons (PV.r (v_isiC I_NoText (PV.r (pv_name (pv 0))) rfl T.m_isinstance rfl)) (a_cons (PV.r (v_isiC I_NoName (PV.r (pv_name (pv 0))) rfl T.m_isinstance rfl)) (a_nil)))))))))))))
theorem sc_l_which:FnScope ["_law_kept"] ["_law_kept"] (defScope s_l_which):=⟨rfl,rfl,rfl,by decide +kernel,rfl,by decide +kernel,by decide +kernel⟩
theorem ok_l_which {f:Addr} {fd:FuncData} (F:Fun K "_law_which" "_law_which" s_l_which f fd) (T:Txt mg) (G_l_classes:DefOk P w K mg base 1 "_law_classes" ["_law_kept"] (.cl) F_l_classes) (I_ValueError:IsV K exNames):FnOk P w K mg base CX0 2 f fd ["_law_kept"] (spR K (.cl) F_l_which):=
  fn_auto (k:=1) ⟨[],.cl⟩ F sc_l_which (by decide) B_l_which (fun cdv hk A outer s H E hr=>ss_cons (s_if (t_w (w_or (t_not (t_val (PV.r (v_isiV I_ValueError (PV.r (pv_name (pv 0))) rfl T.m_isinstance rfl T.m_ValueError bt_ValueError)))) (w_or1 (t_cmp (c_ne hr.units) (PV.r (v_count (r_callD G_l_classes (hr.mono (by decide)) rfl (a_cons (PV.r (pv_name (pv 0))) (a_nil))) (PV.r (pv_bl)))) (PV.r (pv_int)))))) (ss_one (s_ret (PV.r (v_neg (PV.r (pv_int)))))) (ss_nil)) (ss_one (s_ret (PV.r (v_index (r_callD G_l_classes (hr.mono (by decide)) rfl (a_cons (PV.r (pv_name (pv 0))) (a_nil))) (PV.r (pv_bl)))))))
theorem sc_l_whole:FnScope ["_law_found"] ["_law_found"] (defScope s_l_whole):=⟨rfl,rfl,rfl,by decide +kernel,rfl,by decide +kernel,by decide +kernel⟩
theorem ok_l_whole {f:Addr} {fd:FuncData} (F:Fun K "_law_whole" "_law_whole" s_l_whole f fd) (T:Txt mg) :FnOk P w K mg base CX0 1 f fd ["_law_found"] (spR K (.cl) F_l_whole):=
  fn_auto (k:=0) ⟨[],.cl⟩ F sc_l_whole (by decide) B_l_whole (fun cdv hk A outer s H E hr=>ss_one (s_ret (r_and (PV.r (v_isi "int" (PV.r (pv_name (pv 0))) (by simp) rfl T.m_isinstance rfl T.m_int bt_int)) (r_one (PV.r (v_not (PV.r (v_isi "bool" (PV.r (pv_name (pv 0))) (by simp) rfl T.m_isinstance rfl T.m_bool bt_bool))))))))
theorem sc_l_right:FnScope ["_law_rows","_law_ways","_law_many","_law_first","_law_kept","_law_told","e","_law_due_here"] ["_law_rows","_law_ways","_law_many","_law_first"] (defScope s_l_right):=⟨rfl,rfl,rfl,by decide +kernel,rfl,by decide +kernel,by decide +kernel⟩
theorem nd_l_right_0:(["_law_thing"]:List Str).Nodup:=by decide +kernel
theorem ok_l_right {f:Addr} {fd:FuncData} (F:Fun K "_law_right" "_law_right" s_l_right f fd) (T:Txt mg) (G_l_due:DefOk P w K mg base 1 "_law_due" ["_law_rows","_law_many","_law_first"] (.cl) F_l_due) (G_p_farthest_first:DefX P w K mg base 3 "farthest_first" ["ways","many","first"] (.lst .cl) FX_p_farthest_first) (G_l_which:DefOk P w K mg base 2 "_law_which" ["_law_kept"] (.cl) F_l_which) (G_l_whole:DefOk P w K mg base 1 "_law_whole" ["_law_found"] (.cl) F_l_whole) {D_PostError:Addr} (P_PostError:mg "PostError" = some (.ref D_PostError) ∧ Caught K exNames D_PostError) (FE_thing:FldX K exNames "thing"):FnOk P w K mg base CX0 4 f fd ["_law_rows","_law_ways","_law_many","_law_first"] (spR K (.cl) F_l_right):=
  fn_auto (k:=3) ⟨[(5,.lst .cl)],.cl⟩ F sc_l_right (by decide) B_l_right (fun cdv hk A outer s H E hr=>ss_cons (@s_set _ _ _ _ _ _ 4 _ _ sc_l_right.nd rfl (Or.inl rfl) (pv_non) rfl rfl (by first | exact .inl rfl | exact .inr rfl | assumption)) (ss_cons (s_setT (i:=5) sc_l_right.nd rfl (Or.inl rfl) ft_non) (ss_cons (s_try (ie:=6) rfl rfl rfl rfl sc_l_right.nd rfl rfl (.inl rfl) rfl rfl P_PostError.1 P_PostError.2 (fun pn W=>xx_one (xx_setT (i:=5) sc_l_right.nd rfl (Or.inl rfl) (xt_call G_p_farthest_first (hr.mono (by decide)) rfl rfl (ac_cons (pv_name (pv 1)) (ac_cons (pv_name (pv 2)) (ac_cons (pv_name (pv 3)) (ac_nil))))))) (fun pn a=>ss_one (@s_set _ _ _ _ _ _ 4 _ _ sc_l_right.nd rfl (Or.inl rfl) (pv_name (pv 6)) rfl rfl (by first | exact .inl rfl | exact .inr rfl | assumption)))) (ss_cons (s_if (t_cmp c_lt (PV.r (pv_name (pv 2))) (PV.r (pv_int))) (ss_one (s_ret (PV.r (v_cmp (c_eq hr.units) (r_callD G_l_which (hr.mono (by decide)) rfl (a_cons (PV.r (pv_name (pv 4))) (a_nil))) (PV.r (pv_int)))))) (ss_nil)) (ss_cons (s_if (t_w (w_or (t_cmp c_lt (PV.r (pv_name (pv 3))) (PV.r (pv_int))) (w_or1 (t_cmp c_ge (PV.r (pv_name (pv 3))) (PV.r (v_callB (b_len) rfl T.m_len bt_len (a_cons (PV.r (pv_name (pv 0))) (a_nil)))))))) (ss_one (s_ret (r_and (PV.r (v_cmp (c_eq hr.units) (r_callD G_l_which (hr.mono (by decide)) rfl (a_cons (PV.r (pv_name (pv 4))) (a_nil))) (PV.r (pv_int)))) (r_and (r_callD G_l_whole (hr.mono (by decide)) rfl (a_cons (r_fldX FE_thing (PV.r (pv_name (pv 4)))) (a_nil))) (r_one (PV.r (v_cmp (c_eq hr.units) (r_fldX FE_thing (PV.r (pv_name (pv 4)))) (PV.r (pv_name (pv 3)))))))))) (ss_nil)) (ss_cons (s_if (t_w (w_or (t_cmp c_isnt (PV.r (pv_name (pv 4))) (PV.r (pv_non))) (w_or (t_not (t_val (PV.r (v_isi "list" (pr_name (pv 5)) (by simp) rfl T.m_isinstance rfl T.m_list bt_list)))) (w_or1 (t_cmp (c_ne hr.units) (PFr.r (fr_comp (k:=1) (N:=["_law_thing"]) (ix:=[])  (defScope s_l_right) rfl ⟨rfl,rfl,by decide +kernel,by decide +kernel,by decide +kernel,rfl,by decide +kernel,rfl⟩ rfl rfl (ir_list (pr_name (pv 5))) (fun _ _ _ _ _ _=>g_name (i:=0) nd_l_right_0 rfl (Or.inl rfl)) (fun _ _ _ _ _ _=>if_one (t_not (t_val (r_callD G_l_whole (hr.mono (by decide)) rfl (a_cons (PV.r (pv_name (pv 0))) (a_nil)))))) (fun _ _ _ _ _ _=>PV.r (pv_name (pv 0))))) (PFr.r (fr_lst (a_nil)))))))) (ss_one (s_ret (PV.r (pv_bl)))) (ss_nil)) (ss_cons (@s_set _ _ _ _ _ _ 7 _ _ sc_l_right.nd rfl (Or.inl rfl) (v_callD G_l_due (hr.mono (by decide)) rfl (ac_cons (pv_name (pv 0)) (ac_cons (pv_name (pv 2)) (ac_cons (pv_name (pv 3)) (ac_nil))))) rfl rfl (by first | exact .inl rfl | exact .inr rfl | assumption)) (ss_cons (s_if (t_cmp (c_ne hr.units) (pr_name (pv 5)) (PV.r (pv_name (pv 7)))) (ss_one (s_ret (PV.r (pv_bl)))) (ss_nil)) (ss_cons (s_clear (at_name (pv 5))) (ss_one (s_ret (PV.r (v_cmp (c_eq hr.units) (r_callD (DefX.ok G_p_farthest_first) (hr.mono (by decide)) rfl (a_cons (PV.r (pv_name (pv 1))) (a_cons (PV.r (pv_name (pv 2))) (a_cons (PV.r (pv_name (pv 3))) (a_nil))))) (PV.r (pv_name (pv 7))))))))))))))))
theorem sc_law:FnScope ["_law_script","_law_purse","_law_rows","_law_ways","_law_more","_law_turn","_law_digit","_law_some","_law_many","_law_first"] ["_law_script"] (defScope s_law):=⟨rfl,rfl,rfl,by decide +kernel,rfl,by decide +kernel,by decide +kernel⟩
theorem nd_law_0:(["_law_row"]:List Str).Nodup:=by decide +kernel
theorem nd_law_1:(["_law_row"]:List Str).Nodup:=by decide +kernel
theorem ok_law {f:Addr} {fd:FuncData} (F:Fun K "law" "law" s_law f fd) (T:Txt mg) (G_l_digits:DefOk P w K mg base 1 "_law_digits" ["_law_script","_law_at","_law_parts"] (.lst .cl) F_l_digits) (G_l_table_by:DefI P w K mg base 1 "_law_table_by" ["_law_purse","_law_least","_law_most"] 0 (.lst (.lst .cl)) FI_l_table_by) (G_p_Ways:DefN P w K mg base 3 "Ways" ["self","table"] "count" "rows" FN_p_Ways) (G_l_right:DefOk P w K mg base 4 "_law_right" ["_law_rows","_law_ways","_law_many","_law_first"] (.cl) F_l_right) (FO_rows:FldOk K "Ways" "rows"):FnOk P w K mg base CX0 5 f fd ["_law_script"] (spR K (.cl) F_law):=
  fn_auto (k:=4) ⟨[(1,.lst .cl),(4,.lst .cl)],.cl⟩ F sc_law (by decide) B_law (fun cdv hk A outer s H E hr=>ss_cons (s_setT (i:=1) sc_law.nd rfl (Or.inl rfl) (ft_callD G_l_digits (hr.mono (by decide)) rfl (ac_cons (pv_name (pv 0)) (ac_cons (pv_int) (ac_cons (pv_int) (ac_nil)))))) (ss_cons (s_setX (i:=2) sc_law.nd rfl (Or.inl rfl) (x_callIr G_l_table_by (hr.mono (by decide)) rfl (pv 1) (ac_cons (pv_int) (ac_cons (pv_int) (ac_nil))))) (ss_cons (@s_set _ _ _ _ _ _ 3 _ _ sc_law.nd rfl (Or.inl rfl) (v_make G_p_Ways runN_lf (hr.mono (by decide)) rfl (a_cons (PFr.r (fr_comp (k:=1) (N:=["_law_row"]) (ix:=[])  (defScope s_law) rfl ⟨rfl,rfl,by decide +kernel,by decide +kernel,by decide +kernel,rfl,by decide +kernel,rfl⟩ rfl rfl (ir_list (PV.r (pv_name (pv 2)))) (fun _ _ _ _ _ _=>g_name (i:=0) nd_law_0 rfl (Or.inl rfl)) (fun _ _ _ _ _ _=>if_nil) (fun _ _ _ _ _ _=>PFr.r (fr_list rfl T.m_list (PV.r (pv_name (pv 0))))))) (a_nil))) rfl rfl (by first | exact .inl rfl | exact .inr rfl | assumption)) (ss_cons (s_setT (i:=4) sc_law.nd rfl (Or.inl rfl) (ft_callD G_l_digits (hr.mono (by decide)) rfl (ac_cons (pv_name (pv 0)) (ac_cons (pv_int) (ac_cons (pv_int) (ac_nil)))))) (ss_cons (s_for rfl (iv_rng1 rfl T.m_range (a_cons (PV.r (pv_int)) (a_nil))) (g_name (i:=5) sc_law.nd rfl (Or.inl rfl)) (ss_cons (s_setX (i:=6) sc_law.nd rfl (Or.inl rfl) (x_pop (pv 4))) (ss_cons (@s_set _ _ _ _ _ _ 7 _ _ sc_law.nd rfl (Or.inl rfl) (PFc.v (fc_lst (ac_cons (v_sub (PV.r (v_mod (PV.r (v_fdiv (PV.r (pv_name (pv 6))) (PV.r (pv_int)))) (PV.r (pv_int)))) (PV.r (pv_int))) (ac_cons (v_add (PV.r (v_mod (PV.r (v_fdiv (PV.r (pv_name (pv 6))) (PV.r (pv_int)))) (PV.r (pv_int)))) (PV.r (pv_int))) (ac_cons (v_add (PV.r (v_pow (PV.r (pv_int)) (PV.r (pv_int)))) (PV.r (pv_name (pv 6)))) (ac_cons (v_neg (PV.r (v_pow (PV.r (pv_int)) (PV.r (pv_int))))) (ac_nil))))))) rfl rfl (by first | exact .inl rfl | exact .inr rfl | assumption)) (ss_cons (@s_set _ _ _ _ _ _ 8 _ _ sc_law.nd rfl (Or.inl rfl) (PR.clf (r_ix (PV.r (pv_name (pv 7))) (r_ix (PFr.r (fr_lst (a_cons (PV.r (pv_int)) (a_cons (PV.r (pv_int)) (a_cons (PV.r (pv_int)) (a_cons (PV.r (pv_int)) (a_cons (PV.r (pv_int)) (a_cons (PV.r (pv_int)) (a_cons (PV.r (pv_int)) (a_cons (PV.r (pv_int)) (a_nil))))))))))) (PV.r (v_mod (PV.r (pv_name (pv 6))) (PV.r (pv_int))))))) rfl rfl (by first | exact .inl rfl | exact .inr rfl | assumption)) (ss_cons (s_setX (i:=6) sc_law.nd rfl (Or.inl rfl) (x_pop (pv 4))) (ss_cons (@s_set _ _ _ _ _ _ 9 _ _ sc_law.nd rfl (Or.inl rfl) (v_mod (PV.r (v_fdiv (PV.r (pv_name (pv 6))) (PV.r (pv_int)))) (PV.r (v_callB (b_len) rfl T.m_len bt_len (a_cons (PV.r (pv_name (pv 2))) (a_nil))))) rfl rfl (by first | exact .inl rfl | exact .inr rfl | assumption)) (ss_cons (s_if (t_cmp (c_eq hr.units) (PV.r (v_mod (PV.r (pv_name (pv 6))) (PV.r (pv_int)))) (PV.r (pv_int))) (ss_one (@s_set _ _ _ _ _ _ 9 _ _ sc_law.nd rfl (Or.inl rfl) (PR.clf (r_ix (PFr.r (fr_lst (a_cons (PV.r (v_callB (b_len) rfl T.m_len bt_len (a_cons (PV.r (pv_name (pv 2))) (a_nil)))) (a_cons (PV.r (v_neg (PV.r (pv_int)))) (a_cons (PV.r (v_add (PV.r (v_pow (PV.r (pv_int)) (PV.r (pv_int)))) (PV.r (pv_name (pv 6))))) (a_cons (PV.r (v_sub (PV.r (v_neg (PV.r (v_pow (PV.r (pv_int)) (PV.r (pv_int)))))) (PV.r (pv_name (pv 6))))) (a_nil))))))) (PV.r (v_mod (PV.r (v_fdiv (PV.r (pv_name (pv 6))) (PV.r (pv_int)))) (PV.r (pv_int)))))) rfl rfl (by first | exact .inl rfl | exact .inr rfl | assumption))) (ss_nil)) (ss_one (s_if (t_not (t_val (r_callD G_l_right (hr.mono (by decide)) rfl (a_cons (PV.r (pv_name (pv 2))) (a_cons (PV.r (pv_name (pv 3))) (a_cons (PV.r (pv_name (pv 8))) (a_cons (PV.r (pv_name (pv 9))) (a_nil)))))))) (ss_one (s_ret (PV.r (pv_bl)))) (ss_nil))))))))) PassesOwn.never) (ss_one (s_ret (PV.r (v_cmp (c_eq hr.units) (PFr.r (fr_comp (k:=1) (N:=["_law_row"]) (ix:=[])  (defScope s_law) rfl ⟨rfl,rfl,by decide +kernel,by decide +kernel,by decide +kernel,rfl,by decide +kernel,rfl⟩ rfl rfl (ir_tup (r_fld (cls:="Ways") FO_rows (PV.r (pv_name (pv 3))))) (fun _ _ _ _ _ _=>g_name (i:=0) nd_law_1 rfl (Or.inl rfl)) (fun _ _ _ _ _ _=>if_nil) (fun _ _ _ _ _ _=>PFr.r (fr_list rfl T.m_list (PV.r (pv_name (pv 0))))))) (PV.r (pv_name (pv 2))))))))))))
theorem sc_x_NoThing:FnScope ["self","thing"] ["self","thing"] (defScope s_x_NoThing):=⟨rfl,rfl,rfl,by decide +kernel,rfl,by decide +kernel,by decide +kernel⟩
theorem xi_NoThing {C fI CP:Addr} {fd:FuncData} (o:XOwn K "NoThing" C fI) (F:Fun K "__init__" ("NoThing" ++ ".__init__") s_x_NoThing fI fd) (fl:FldIn K C "thing") (b:BaseK K mg "PostError" CP):InitOk P w K mg base 1 fI C "thing" IntV:=
  init_ok (k:=0) o F sc_x_NoThing (F.binds fun _ _ _ _ _ _ us hl=>len2 (P:=fun us=>bindArgs _ ⟨us,[]⟩ = pure (List.zip _ us)) hl fun _ _=>rfl) fl rfl (fun _=>rfl) (fun _=>rfl) (fun e cdv A outer s H hr=>⟨⟨rfl,b.mg,b.rd,b.fc,b.sp⟩,pe_join2 pe_str (pe_fmt (pv 1)),pv 0,pv 0,pv 1,rfl,rfl,rfl,_,rfl⟩) (text2 (by decide))
end
theorem all_mk {l:PySem.W.OpenLaw} {w:World} {K:PySem.W.Frag} {h:Heap} {mg:Str → Option Value} {fa:Addr} (X:K.In h) (G:h.Ns mainGlobals mg) (hfa:mg "law" = some (.ref fa))
    (e_NoMany:ExcAt K "NoMany")
    (xa_NoThing:XAt K "NoThing" "PostError" "thing" s_x_NoThing)
    (x_all:(isCls K "PostError" && (exAll K exNames (clsAt K "PostError") && ((["NoRing","NoReach","NoPosts","NoMany","NoFolk","NoWord","NoLine","NoWay","NoTable","NoPost","NoName","NoText","NoThing"]:List Str).all (isTs K exNames) && (isVs K exNames && (fldXs K exNames "thing" && true))))) = true)
    (d0:FnAt K "_law_digits" s_l_digits)
    (d1:FnAt K "_law_table_by" s_l_table_by)
    (d2:FnAt K "check_counts" s_p_check_counts)
    (d3:FnAt K "is_row_right" s_p_is_row_right)
    (d4:FnAt K "check_numbers" s_p_check_numbers)
    (d5:FnAt K "check_ways_round" s_p_check_ways_round)
    (k6:ClsAt K "Ways" s_p_Ways "count" "rows")
    (d7:FnAt K "_law_due" s_l_due)
    (d8:FnAt K "check_many" s_p_check_many)
    (d9:FnAt K "is_number_of" s_p_is_number_of)
    (d10:FnAt K "farthest_first" s_p_farthest_first)
    (d11:FnAt K "_law_classes" s_l_classes)
    (d12:FnAt K "_law_which" s_l_which)
    (d13:FnAt K "_law_whole" s_l_whole)
    (d14:FnAt K "_law_right" s_l_right)
    (d15:FnAt K "law" s_law)
    (z_all:noNames K ["ValueError","bool","enumerate","int","isinstance","len","list","max","min","range","reversed","sum","tuple","zip"] = true)
   :∃ fd:FuncData,(∀ (s:Shared) (v:Value),BindsTo s fd ⟨[v],[]⟩ [("_law_script",v)]) ∧ ∀ base:Heap,K.In base → base.Ns mainGlobals mg → FnOk l.prog w K mg base CX0 5 fa fd ["_law_script"] (spR K .cl F_law):=by
  have T:Txt mg:=⟨noNames_get X G z_all 0 rfl,noNames_get X G z_all 1 rfl,noNames_get X G z_all 2 rfl,noNames_get X G z_all 3 rfl,noNames_get X G z_all 4 rfl,noNames_get X G z_all 5 rfl,noNames_get X G z_all 6 rfl,noNames_get X G z_all 7 rfl,noNames_get X G z_all 8 rfl,noNames_get X G z_all 9 rfl,noNames_get X G z_all 10 rfl,noNames_get X G z_all 11 rfl,noNames_get X G z_all 12 rfl,noNames_get X G z_all 13 rfl⟩
  obtain ⟨c_PostError,x_all⟩:=and2 x_all
  obtain ⟨q_PostError,x_all⟩:=and2 x_all
  obtain ⟨i_all,x_all⟩:=and2 x_all
  obtain ⟨v_all,x_all⟩:=and2 x_all
  obtain ⟨fe_thing,x_all⟩:=and2 x_all
  have X_NoMany:XCD K mg "NoMany" _:=xcd_of X G e_NoMany
  have P_PostError:=caught_of X G c_PostError q_PostError
  have I_NoRing:IsT K mg exNames "NoRing" _:=isT_of X G i_all 0 rfl
  have I_NoReach:IsT K mg exNames "NoReach" _:=isT_of X G i_all 1 rfl
  have I_NoPosts:IsT K mg exNames "NoPosts" _:=isT_of X G i_all 2 rfl
  have I_NoMany:IsT K mg exNames "NoMany" _:=isT_of X G i_all 3 rfl
  have I_NoFolk:IsT K mg exNames "NoFolk" _:=isT_of X G i_all 4 rfl
  have I_NoWord:IsT K mg exNames "NoWord" _:=isT_of X G i_all 5 rfl
  have I_NoLine:IsT K mg exNames "NoLine" _:=isT_of X G i_all 6 rfl
  have I_NoWay:IsT K mg exNames "NoWay" _:=isT_of X G i_all 7 rfl
  have I_NoTable:IsT K mg exNames "NoTable" _:=isT_of X G i_all 8 rfl
  have I_NoPost:IsT K mg exNames "NoPost" _:=isT_of X G i_all 9 rfl
  have I_NoName:IsT K mg exNames "NoName" _:=isT_of X G i_all 10 rfl
  have I_NoText:IsT K mg exNames "NoText" _:=isT_of X G i_all 11 rfl
  have I_NoThing:IsT K mg exNames "NoThing" _:=isT_of X G i_all 12 rfl
  have I_ValueError:IsV K exNames:=isV_of v_all
  have FE_thing:=fldX_of fe_thing
  have XI_NoThing:∀ base:Heap,XIn l.prog w K mg base 1 "NoThing" "thing":=fun base=>xa_NoThing.ok X G fun C fI CP fd o F fl b=>xi_NoThing o F fl b
  have H_l_digits:∀ base:Heap,DefOk l.prog w K mg base 1 "_law_digits" ["_law_script","_law_at","_law_parts"] (.lst .cl) F_l_digits:=fun base=>d0.ok X G (fun _ _ _ _ _ _ us hl=>len3 (P:=fun us=>bindArgs _ ⟨us,[]⟩ = pure (List.zip _ us)) hl fun _ _ _=>rfl) fun f fd a F=>ok_l_digits F T
  have H_l_table_by:∀ base:Heap,DefI l.prog w K mg base 1 "_law_table_by" ["_law_purse","_law_least","_law_most"] 0 (.lst (.lst .cl)) FI_l_table_by:=fun base=>d1.okI X G (fun _ _ _ _ _ _ us hl=>len3 (P:=fun us=>bindArgs _ ⟨us,[]⟩ = pure (List.zip _ us)) hl fun _ _ _=>rfl) fun f fd a F=>ok_l_table_by F T
  have H_p_check_counts:∀ base:Heap,DefOk l.prog w K mg base 1 "check_counts" ["rows"] (.cl) F_p_check_counts:=fun base=>d2.ok X G (fun _ _ _ _ _ _ us hl=>len1 (P:=fun us=>bindArgs _ ⟨us,[]⟩ = pure (List.zip _ us)) hl fun _=>rfl) fun f fd a F=>ok_p_check_counts F T
  have H_p_is_row_right:∀ base:Heap,DefOk l.prog w K mg base 1 "is_row_right" ["rows","number"] (.cl) F_p_is_row_right:=fun base=>d3.ok X G (fun _ _ _ _ _ _ us hl=>len2 (P:=fun us=>bindArgs _ ⟨us,[]⟩ = pure (List.zip _ us)) hl fun _ _=>rfl) fun f fd a F=>ok_p_is_row_right F T
  have H_p_check_numbers:∀ base:Heap,DefOk l.prog w K mg base 2 "check_numbers" ["rows"] (.cl) F_p_check_numbers:=fun base=>d4.ok X G (fun _ _ _ _ _ _ us hl=>len1 (P:=fun us=>bindArgs _ ⟨us,[]⟩ = pure (List.zip _ us)) hl fun _=>rfl) fun f fd a F=>ok_p_check_numbers F T (H_p_is_row_right base)
  have H_p_check_ways_round:∀ base:Heap,DefOk l.prog w K mg base 1 "check_ways_round" ["rows"] (.cl) F_p_check_ways_round:=fun base=>d5.ok X G (fun _ _ _ _ _ _ us hl=>len1 (P:=fun us=>bindArgs _ ⟨us,[]⟩ = pure (List.zip _ us)) hl fun _=>rfl) fun f fd a F=>ok_p_check_ways_round F T
  have FO_count:=k6.fld1
  have FO_rows:=k6.fld2
  have H_p_Ways:∀ base:Heap,DefN l.prog w K mg base 3 "Ways" ["self","table"] "count" "rows" FN_p_Ways:=fun base=>k6.ok X G (fun _ _ _ _ _ _ us hl=>len2 (P:=fun us=>bindArgs _ ⟨us,[]⟩ = pure (List.zip _ us)) hl fun _ _=>rfl) fun f fd F=>ok_p_Ways F T (H_p_check_counts base) (H_p_check_numbers base) (H_p_check_ways_round base) FO_count FO_rows
  have H_l_due:∀ base:Heap,DefOk l.prog w K mg base 1 "_law_due" ["_law_rows","_law_many","_law_first"] (.cl) F_l_due:=fun base=>d7.ok X G (fun _ _ _ _ _ _ us hl=>len3 (P:=fun us=>bindArgs _ ⟨us,[]⟩ = pure (List.zip _ us)) hl fun _ _ _=>rfl) fun f fd a F=>ok_l_due F T
  have H_p_check_many:∀ base:Heap,DefX l.prog w K mg base 1 "check_many" ["many"] (.cl) FX_p_check_many:=fun base=>d8.okX X G (fun _ _ _ _ _ _ us hl=>len1 (P:=fun us=>bindArgs _ ⟨us,[]⟩ = pure (List.zip _ us)) hl fun _=>rfl) fun f fd a F=>ok_p_check_many F T  X_NoMany
  have H_p_is_number_of:∀ base:Heap,DefOk l.prog w K mg base 1 "is_number_of" ["things","number"] (.cl) F_p_is_number_of:=fun base=>d9.ok X G (fun _ _ _ _ _ _ us hl=>len2 (P:=fun us=>bindArgs _ ⟨us,[]⟩ = pure (List.zip _ us)) hl fun _ _=>rfl) fun f fd a F=>ok_p_is_number_of F T
  have H_p_farthest_first:∀ base:Heap,DefX l.prog w K mg base 3 "farthest_first" ["ways","many","first"] (.lst .cl) FX_p_farthest_first:=fun base=>d10.okX X G (fun _ _ _ _ _ _ us hl=>len3 (P:=fun us=>bindArgs _ ⟨us,[]⟩ = pure (List.zip _ us)) hl fun _ _ _=>rfl) fun f fd a F=>ok_p_farthest_first F T (H_p_check_many base) (H_p_is_number_of base) FO_rows (XI_NoThing base)
  have H_l_classes:∀ base:Heap,DefOk l.prog w K mg base 1 "_law_classes" ["_law_kept"] (.cl) F_l_classes:=fun base=>d11.ok X G (fun _ _ _ _ _ _ us hl=>len1 (P:=fun us=>bindArgs _ ⟨us,[]⟩ = pure (List.zip _ us)) hl fun _=>rfl) fun f fd a F=>ok_l_classes F T  I_NoRing I_NoReach I_NoPosts I_NoMany I_NoFolk I_NoWord I_NoLine I_NoWay I_NoTable I_NoPost I_NoName I_NoText I_NoThing
  have H_l_which:∀ base:Heap,DefOk l.prog w K mg base 2 "_law_which" ["_law_kept"] (.cl) F_l_which:=fun base=>d12.ok X G (fun _ _ _ _ _ _ us hl=>len1 (P:=fun us=>bindArgs _ ⟨us,[]⟩ = pure (List.zip _ us)) hl fun _=>rfl) fun f fd a F=>ok_l_which F T (H_l_classes base) I_ValueError
  have H_l_whole:∀ base:Heap,DefOk l.prog w K mg base 1 "_law_whole" ["_law_found"] (.cl) F_l_whole:=fun base=>d13.ok X G (fun _ _ _ _ _ _ us hl=>len1 (P:=fun us=>bindArgs _ ⟨us,[]⟩ = pure (List.zip _ us)) hl fun _=>rfl) fun f fd a F=>ok_l_whole F T
  have H_l_right:∀ base:Heap,DefOk l.prog w K mg base 4 "_law_right" ["_law_rows","_law_ways","_law_many","_law_first"] (.cl) F_l_right:=fun base=>d14.ok X G (fun _ _ _ _ _ _ us hl=>len4 (P:=fun us=>bindArgs _ ⟨us,[]⟩ = pure (List.zip _ us)) hl fun _ _ _ _=>rfl) fun f fd a F=>ok_l_right F T (H_l_due base) (H_p_farthest_first base) (H_l_which base) (H_l_whole base) P_PostError FE_thing
  exact d15.law X G hfa (fun _ _ _ _ _ _ s v=>.of_eq rfl) fun base f fd F=>ok_law F T (H_l_digits base) (H_l_table_by base) (H_p_Ways base) (H_l_right base) FO_rows
theorem lam0:lamNames PySem.Challenge.rw_nearposts_k44_farthest_first.prog = ([]:List Str):=by decide +kernel
theorem walk {l:PySem.W.OpenLaw} {q:Program} {loose:List Str} {XP:(Str → Option Value) → Heap → Prop} {YP:World → Heap → Prop} {d:DefRec} {K:Params → PySem.W.Frag} (hn:l.most = some 63) (hdf:d.params.defaults = []) (hq:∀ y ∈ lamNames l.prog,((recsOf q).find? fun e=>e.name == y).isSome = true) (hTK:∀ (w:World) (y:Str) (c p:Addr),y ∈ lamNames l.prog → PySem.W.tabIn (K w.params) y = some (c,p) → (K w.params).lookup p = none)
    (hY:∀ (w:World) (h:Heap),YP w h → (K w.params).In h)
    (F:∀ (w:World) (mg:Str → Option Value) (fa:Addr) (h:Heap),(K w.params).In h → h.Ns mainGlobals mg → mg d.name = some (.ref fa) →
      ∃ fd:FuncData,(∀ (s:Shared) (u:Value),BindsTo s fd ⟨[u],[]⟩ [("_law_script",u)]) ∧ ∀ base:Heap,(K w.params).In base → base.Ns mainGlobals mg → FnOk l.prog w (K w.params) mg base CX0 5 fa fd ["_law_script"] (spR (K w.params) .cl F_law)) :
    PySem.W.WalkO q loose XP YP l.row.toRowW d [] (fun f vs=>PySem.call f vs):=
  L2.walk_ofT (n:=63) (k:=5) (x:="_law_script") (CX:=fun _=>CX0) (sp:=fun w=>spR (K w.params) .cl F_law) hn (by decide) hdf ⟨rfl,by decide,by decide⟩ hY hq hTK F (fun _ H a ns hl hS=>⟨fun _=>False,[.list (ns.map .int)],.bool true,fun _ z=>z.elim,by rw [del_false]; exact .cons (.lst hS (DenL.ints ns)) .nil,main ns hl,fun v as H' _ _ D=>den_bl D.den⟩) fun _ _ _ _ _ z=>z
end NW
open PySem PySem.W PyProof.Rows
set_option maxRecDepth 100000 in
set_option maxHeartbeats 0 in
theorem PySem.Challenge.cw_nearposts_k44_farthest_first_holds : PySem.Challenge.rw_nearposts_k44_farthest_first.Holds := by
  w_on; o_law; z_head; (case hw=>w_witness2)
  k_fill
  refine L2.walkX_of ?E (NW.walk (l:=PySem.Challenge.rw_nearposts_k44_farthest_first) rfl rfl ?Q ?K (fun w h Y=>Y) ?F)
  case E=>exact fun _=>rfl
  case Q=>exact L2.lam_q (by rw [NW.lam0]; kernel_rfl)
  case K=>exact fun w=>L2.lam_k (by rw [NW.lam0]; kernel_rfl)
  case F=>
    intro w mg fa h KX G hmg
    refine' NW.all_mk KX G hmg ?e_NoMany ?xa_NoThing ?x_all ?d0 ?d1 ?d2 ?d3 ?d4 ?d5 ?k6 ?d7 ?d8 ?d9 ?d10 ?d11 ?d12 ?d13 ?d14 ?d15 ?z_all
    (case e_NoMany=>refine' L2.ExcAt.mk _ ?en (L2.XNo.of ?el ?ee ?et ?eo ?ei); (case en=>k_is); (case el=>k_is); (case ee=>rfl); (case et=>kernel_rfl); (case eo=>kernel_rfl); (case ei=>kernel_rfl))
    (case xa_NoThing=>refine' L2.XAt.mk 192 189 24 _ ⟨?xn,L2.XHas.of ?xl ?xe ?xt ?xo ?xi⟩ (L2.fun_mk ?xf ?xc ?xk) ?xg ⟨?xs,?xv,?xw⟩ ?xb ?xr ?xd ?xp; (case xn=>k_is); (case xl=>k_is); (case xe=>rfl); (case xt=>kernel_rfl); (case xo=>kernel_rfl); (case xi=>k_is); (case xf=>k_is); (case xc=>k_is); (case xk=>k_is); (case xg=>kernel_rfl); (case xs=>kernel_rfl); (case xv=>kernel_rfl); (case xw=>kernel_rfl); (case xb=>k_is); (case xr=>kernel_rfl); (case xd=>kernel_rfl); (case xp=>kernel_rfl))
    (case x_all=>kernel_rfl)
    (case d0=>refine' L2.FnAt.mk _ _ ?a (L2.fun_mk ?l ?c ?k); (case a=>k_is); (case l=>k_is); (case c=>k_is); (case k=>k_is))
    (case d1=>refine' L2.FnAt.mk _ _ ?a (L2.fun_mk ?l ?c ?k); (case a=>k_is); (case l=>k_is); (case c=>k_is); (case k=>k_is))
    (case d2=>refine' L2.FnAt.mk _ _ ?a (L2.fun_mk ?l ?c ?k); (case a=>k_is); (case l=>k_is); (case c=>k_is); (case k=>k_is))
    (case d3=>refine' L2.FnAt.mk _ _ ?a (L2.fun_mk ?l ?c ?k); (case a=>k_is); (case l=>k_is); (case c=>k_is); (case k=>k_is))
    (case d4=>refine' L2.FnAt.mk _ _ ?a (L2.fun_mk ?l ?c ?k); (case a=>k_is); (case l=>k_is); (case c=>k_is); (case k=>k_is))
    (case d5=>refine' L2.FnAt.mk _ _ ?a (L2.fun_mk ?l ?c ?k); (case a=>k_is); (case l=>k_is); (case c=>k_is); (case k=>k_is))
    (case k6=>refine' L2.ClsAt.mk 289 286 _ ?qa ?q1 ?q2 ?q3 ?q4 ?q5 ?q6 ?q7 ?q8 ?q9 ?q10 (L2.fun_mk ?ql ?qc ?qk); (case qa=>k_is); (case q1=>kernel_rfl); (case q2=>k_is); (case q3=>kernel_rfl); (case q4=>kernel_rfl); (case q5=>kernel_rfl); (case q6=>kernel_rfl); (case q7=>kernel_rfl); (case q8=>k_is); (case q9=>k_is); (case q10=>k_is); (case ql=>k_is); (case qc=>k_is); (case qk=>k_is))
    (case d7=>refine' L2.FnAt.mk _ _ ?a (L2.fun_mk ?l ?c ?k); (case a=>k_is); (case l=>k_is); (case c=>k_is); (case k=>k_is))
    (case d8=>refine' L2.FnAt.mk _ _ ?a (L2.fun_mk ?l ?c ?k); (case a=>k_is); (case l=>k_is); (case c=>k_is); (case k=>k_is))
    (case d9=>refine' L2.FnAt.mk _ _ ?a (L2.fun_mk ?l ?c ?k); (case a=>k_is); (case l=>k_is); (case c=>k_is); (case k=>k_is))
    (case d10=>refine' L2.FnAt.mk _ _ ?a (L2.fun_mk ?l ?c ?k); (case a=>k_is); (case l=>k_is); (case c=>k_is); (case k=>k_is))
    (case d11=>refine' L2.FnAt.mk _ _ ?a (L2.fun_mk ?l ?c ?k); (case a=>k_is); (case l=>k_is); (case c=>k_is); (case k=>k_is))
    (case d12=>refine' L2.FnAt.mk _ _ ?a (L2.fun_mk ?l ?c ?k); (case a=>k_is); (case l=>k_is); (case c=>k_is); (case k=>k_is))
    (case d13=>refine' L2.FnAt.mk _ _ ?a (L2.fun_mk ?l ?c ?k); (case a=>k_is); (case l=>k_is); (case c=>k_is); (case k=>k_is))
    (case d14=>refine' L2.FnAt.mk _ _ ?a (L2.fun_mk ?l ?c ?k); (case a=>k_is); (case l=>k_is); (case c=>k_is); (case k=>k_is))
    (case d15=>refine' L2.FnAt.mk _ _ ?a (L2.fun_mk ?l ?c ?k); (case a=>k_is); (case l=>k_is); (case c=>k_is); (case k=>k_is))
    (case z_all=>kernel_rfl)

