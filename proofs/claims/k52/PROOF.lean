import PyProof.Rows.All
import Wide.All
import OpenK.AllK
import Wide.FinOn
import Lean
import PyProof.EqAt
import PyProof.EqKinds
import PyProof.TupleCall
import KE.KRevIter
import KE.KMinKey
import KE.KSortAsk
import KE.KIntText
import PySem.Challenge.RW_nearposts_k52_whole_watches_told_otherwi
set_option Elab.async false
set_option linter.all false
set_option maxRecDepth 100000
set_option maxHeartbeats 4000000
set_option bootstrap.genMatcherCode false
set_option genSizeOf false
set_option compiler.extract_closed false
namespace L2
theorem ad (h:True:=by decide):True:=trivial
theorem ar (h:True:=by rfl):True:=trivial
end L2
namespace L2
theorem o_A {P0:Prop} {P1:Prop} {G:Prop} (h:P0 ∧ P1) (f:P0 → P1 → G):G:=by
  obtain ⟨a0,a1⟩:=h
  exact f a0 a1
theorem o_AA {P0:Prop} {P1:Prop} {P2:Prop} {G:Prop} (h:P0 ∧ P1 ∧ P2) (f:P0 → P1 → P2 → G):G:=by
  obtain ⟨a0,a1,a2⟩:=h
  exact f a0 a1 a2
theorem o_AAA {P0:Prop} {P1:Prop} {P2:Prop} {P3:Prop} {G:Prop} (h:P0 ∧ P1 ∧ P2 ∧ P3) (f:P0 → P1 → P2 → P3 → G):G:=by
  obtain ⟨a0,a1,a2,a3⟩:=h
  exact f a0 a1 a2 a3
theorem o_AAAA {P0:Prop} {P1:Prop} {P2:Prop} {P3:Prop} {P4:Prop} {G:Prop} (h:P0 ∧ P1 ∧ P2 ∧ P3 ∧ P4) (f:P0 → P1 → P2 → P3 → P4 → G):G:=by
  obtain ⟨a0,a1,a2,a3,a4⟩:=h
  exact f a0 a1 a2 a3 a4
theorem o_AAAAA {P0:Prop} {P1:Prop} {P2:Prop} {P3:Prop} {P4:Prop} {P5:Prop} {G:Prop} (h:P0 ∧ P1 ∧ P2 ∧ P3 ∧ P4 ∧ P5) (f:P0 → P1 → P2 → P3 → P4 → P5 → G):G:=by
  obtain ⟨a0,a1,a2,a3,a4,a5⟩:=h
  exact f a0 a1 a2 a3 a4 a5
theorem o_AAAAEAA {T0:Sort _} {P0:Prop} {P1:Prop} {P2:Prop} {P3:Prop} {P4:T0 → Prop} {P5:T0 → Prop} {P6:T0 → Prop} {G:Prop} (h:P0 ∧ P1 ∧ P2 ∧ P3 ∧ ∃ x0,P4 x0 ∧ P5 x0 ∧ P6 x0) (f:P0 → P1 → P2 → P3 → ∀ x0,P4 x0 → P5 x0 → P6 x0 → G):G:=by
  obtain ⟨a0,a1,a2,a3,a4,a5,a6,a7⟩:=h
  exact f a0 a1 a2 a3 a4 a5 a6 a7
theorem o_AAEAEEEA {T0:Sort _} {T1:Sort _} {T2:Sort _} {T3:Sort _} {P0:Prop} {P1:Prop} {P2:T0 → Prop} {P3:T0 → T1 → T2 → T3 → Prop} {P4:T0 → T1 → T2 → T3 → Prop} {G:Prop} (h:P0 ∧ P1 ∧ ∃ x0,P2 x0 ∧ ∃ x1,∃ x2,∃ x3,P3 x0 x1 x2 x3 ∧ P4 x0 x1 x2 x3) (f:P0 → P1 → ∀ x0,P2 x0 → ∀ x1,∀ x2,∀ x3,P3 x0 x1 x2 x3 → P4 x0 x1 x2 x3 → G):G:=by
  obtain ⟨a0,a1,a2,a3,a4,a5,a6,a7,a8⟩:=h
  exact f a0 a1 a2 a3 a4 a5 a6 a7 a8
theorem o_AAEAEEEAA {T0:Sort _} {T1:Sort _} {T2:Sort _} {T3:Sort _} {P0:Prop} {P1:Prop} {P2:T0 → Prop} {P3:T0 → T1 → T2 → T3 → Prop} {P4:T0 → T1 → T2 → T3 → Prop} {P5:T0 → T1 → T2 → T3 → Prop} {G:Prop} (h:P0 ∧ P1 ∧ ∃ x0,P2 x0 ∧ ∃ x1,∃ x2,∃ x3,P3 x0 x1 x2 x3 ∧ P4 x0 x1 x2 x3 ∧ P5 x0 x1 x2 x3) (f:P0 → P1 → ∀ x0,P2 x0 → ∀ x1,∀ x2,∀ x3,P3 x0 x1 x2 x3 → P4 x0 x1 x2 x3 → P5 x0 x1 x2 x3 → G):G:=by
  obtain ⟨a0,a1,a2,a3,a4,a5,a6,a7,a8,a9⟩:=h
  exact f a0 a1 a2 a3 a4 a5 a6 a7 a8 a9
theorem o_AEA {T0:Sort _} {P0:Prop} {P1:T0 → Prop} {P2:T0 → Prop} {G:Prop} (h:P0 ∧ ∃ x0,P1 x0 ∧ P2 x0) (f:P0 → ∀ x0,P1 x0 → P2 x0 → G):G:=by
  obtain ⟨a0,a1,a2,a3⟩:=h
  exact f a0 a1 a2 a3
theorem o_AEEA {T0:Sort _} {T1:Sort _} {P0:Prop} {P1:T0 → T1 → Prop} {P2:T0 → T1 → Prop} {G:Prop} (h:P0 ∧ ∃ x0,∃ x1,P1 x0 x1 ∧ P2 x0 x1) (f:P0 → ∀ x0,∀ x1,P1 x0 x1 → P2 x0 x1 → G):G:=by
  obtain ⟨a0,a1,a2,a3,a4⟩:=h
  exact f a0 a1 a2 a3 a4
theorem o_AEEAA {T0:Sort _} {T1:Sort _} {P0:Prop} {P1:T0 → T1 → Prop} {P2:T0 → T1 → Prop} {P3:T0 → T1 → Prop} {G:Prop} (h:P0 ∧ ∃ x0,∃ x1,P1 x0 x1 ∧ P2 x0 x1 ∧ P3 x0 x1) (f:P0 → ∀ x0,∀ x1,P1 x0 x1 → P2 x0 x1 → P3 x0 x1 → G):G:=by
  obtain ⟨a0,a1,a2,a3,a4,a5⟩:=h
  exact f a0 a1 a2 a3 a4 a5
theorem o_E {T0:Sort _} {P0:T0 → Prop} {G:Prop} (h:∃ x0,P0 x0) (f:∀ x0,P0 x0 → G):G:=by
  obtain ⟨a0,a1⟩:=h
  exact f a0 a1
theorem o_EA {T0:Sort _} {P0:T0 → Prop} {P1:T0 → Prop} {G:Prop} (h:∃ x0,P0 x0 ∧ P1 x0) (f:∀ x0,P0 x0 → P1 x0 → G):G:=by
  obtain ⟨a0,a1,a2⟩:=h
  exact f a0 a1 a2
theorem o_EAA {T0:Sort _} {P0:T0 → Prop} {P1:T0 → Prop} {P2:T0 → Prop} {G:Prop} (h:∃ x0,P0 x0 ∧ P1 x0 ∧ P2 x0) (f:∀ x0,P0 x0 → P1 x0 → P2 x0 → G):G:=by
  obtain ⟨a0,a1,a2,a3⟩:=h
  exact f a0 a1 a2 a3
theorem o_EAAA {T0:Sort _} {P0:T0 → Prop} {P1:T0 → Prop} {P2:T0 → Prop} {P3:T0 → Prop} {G:Prop} (h:∃ x0,P0 x0 ∧ P1 x0 ∧ P2 x0 ∧ P3 x0) (f:∀ x0,P0 x0 → P1 x0 → P2 x0 → P3 x0 → G):G:=by
  obtain ⟨a0,a1,a2,a3,a4⟩:=h
  exact f a0 a1 a2 a3 a4
theorem o_EAAAA {T0:Sort _} {P0:T0 → Prop} {P1:T0 → Prop} {P2:T0 → Prop} {P3:T0 → Prop} {P4:T0 → Prop} {G:Prop} (h:∃ x0,P0 x0 ∧ P1 x0 ∧ P2 x0 ∧ P3 x0 ∧ P4 x0) (f:∀ x0,P0 x0 → P1 x0 → P2 x0 → P3 x0 → P4 x0 → G):G:=by
  obtain ⟨a0,a1,a2,a3,a4,a5⟩:=h
  exact f a0 a1 a2 a3 a4 a5
theorem o_EAAE {T0:Sort _} {T1:Sort _} {P0:T0 → Prop} {P1:T0 → Prop} {P2:T0 → T1 → Prop} {G:Prop} (h:∃ x0,P0 x0 ∧ P1 x0 ∧ ∃ x1,P2 x0 x1) (f:∀ x0,P0 x0 → P1 x0 → ∀ x1,P2 x0 x1 → G):G:=by
  obtain ⟨a0,a1,a2,a3,a4⟩:=h
  exact f a0 a1 a2 a3 a4
theorem o_EAE {T0:Sort _} {T1:Sort _} {P0:T0 → Prop} {P1:T0 → T1 → Prop} {G:Prop} (h:∃ x0,P0 x0 ∧ ∃ x1,P1 x0 x1) (f:∀ x0,P0 x0 → ∀ x1,P1 x0 x1 → G):G:=by
  obtain ⟨a0,a1,a2,a3⟩:=h
  exact f a0 a1 a2 a3
theorem o_EE {T0:Sort _} {T1:Sort _} {P0:T0 → T1 → Prop} {G:Prop} (h:∃ x0,∃ x1,P0 x0 x1) (f:∀ x0,∀ x1,P0 x0 x1 → G):G:=by
  obtain ⟨a0,a1,a2⟩:=h
  exact f a0 a1 a2
theorem o_EEA {T0:Sort _} {T1:Sort _} {P0:T0 → T1 → Prop} {P1:T0 → T1 → Prop} {G:Prop} (h:∃ x0,∃ x1,P0 x0 x1 ∧ P1 x0 x1) (f:∀ x0,∀ x1,P0 x0 x1 → P1 x0 x1 → G):G:=by
  obtain ⟨a0,a1,a2,a3⟩:=h
  exact f a0 a1 a2 a3
theorem o_EEAA {T0:Sort _} {T1:Sort _} {P0:T0 → T1 → Prop} {P1:T0 → T1 → Prop} {P2:T0 → T1 → Prop} {G:Prop} (h:∃ x0,∃ x1,P0 x0 x1 ∧ P1 x0 x1 ∧ P2 x0 x1) (f:∀ x0,∀ x1,P0 x0 x1 → P1 x0 x1 → P2 x0 x1 → G):G:=by
  obtain ⟨a0,a1,a2,a3,a4⟩:=h
  exact f a0 a1 a2 a3 a4
theorem o_EEAAA {T0:Sort _} {T1:Sort _} {P0:T0 → T1 → Prop} {P1:T0 → T1 → Prop} {P2:T0 → T1 → Prop} {P3:T0 → T1 → Prop} {G:Prop} (h:∃ x0,∃ x1,P0 x0 x1 ∧ P1 x0 x1 ∧ P2 x0 x1 ∧ P3 x0 x1) (f:∀ x0,∀ x1,P0 x0 x1 → P1 x0 x1 → P2 x0 x1 → P3 x0 x1 → G):G:=by
  obtain ⟨a0,a1,a2,a3,a4,a5⟩:=h
  exact f a0 a1 a2 a3 a4 a5
theorem o_EEAAAA {T0:Sort _} {T1:Sort _} {P0:T0 → T1 → Prop} {P1:T0 → T1 → Prop} {P2:T0 → T1 → Prop} {P3:T0 → T1 → Prop} {P4:T0 → T1 → Prop} {G:Prop} (h:∃ x0,∃ x1,P0 x0 x1 ∧ P1 x0 x1 ∧ P2 x0 x1 ∧ P3 x0 x1 ∧ P4 x0 x1) (f:∀ x0,∀ x1,P0 x0 x1 → P1 x0 x1 → P2 x0 x1 → P3 x0 x1 → P4 x0 x1 → G):G:=by
  obtain ⟨a0,a1,a2,a3,a4,a5,a6⟩:=h
  exact f a0 a1 a2 a3 a4 a5 a6
theorem o_EEAAAAA {T0:Sort _} {T1:Sort _} {P0:T0 → T1 → Prop} {P1:T0 → T1 → Prop} {P2:T0 → T1 → Prop} {P3:T0 → T1 → Prop} {P4:T0 → T1 → Prop} {P5:T0 → T1 → Prop} {G:Prop} (h:∃ x0,∃ x1,P0 x0 x1 ∧ P1 x0 x1 ∧ P2 x0 x1 ∧ P3 x0 x1 ∧ P4 x0 x1 ∧ P5 x0 x1) (f:∀ x0,∀ x1,P0 x0 x1 → P1 x0 x1 → P2 x0 x1 → P3 x0 x1 → P4 x0 x1 → P5 x0 x1 → G):G:=by
  obtain ⟨a0,a1,a2,a3,a4,a5,a6,a7⟩:=h
  exact f a0 a1 a2 a3 a4 a5 a6 a7
theorem o_EEEA {T0:Sort _} {T1:Sort _} {T2:Sort _} {P0:T0 → T1 → T2 → Prop} {P1:T0 → T1 → T2 → Prop} {G:Prop} (h:∃ x0,∃ x1,∃ x2,P0 x0 x1 x2 ∧ P1 x0 x1 x2) (f:∀ x0,∀ x1,∀ x2,P0 x0 x1 x2 → P1 x0 x1 x2 → G):G:=by
  obtain ⟨a0,a1,a2,a3,a4⟩:=h
  exact f a0 a1 a2 a3 a4
theorem o_EEEAA {T0:Sort _} {T1:Sort _} {T2:Sort _} {P0:T0 → T1 → T2 → Prop} {P1:T0 → T1 → T2 → Prop} {P2:T0 → T1 → T2 → Prop} {G:Prop} (h:∃ x0,∃ x1,∃ x2,P0 x0 x1 x2 ∧ P1 x0 x1 x2 ∧ P2 x0 x1 x2) (f:∀ x0,∀ x1,∀ x2,P0 x0 x1 x2 → P1 x0 x1 x2 → P2 x0 x1 x2 → G):G:=by
  obtain ⟨a0,a1,a2,a3,a4,a5⟩:=h
  exact f a0 a1 a2 a3 a4 a5
theorem o_EEEAAA {T0:Sort _} {T1:Sort _} {T2:Sort _} {P0:T0 → T1 → T2 → Prop} {P1:T0 → T1 → T2 → Prop} {P2:T0 → T1 → T2 → Prop} {P3:T0 → T1 → T2 → Prop} {G:Prop} (h:∃ x0,∃ x1,∃ x2,P0 x0 x1 x2 ∧ P1 x0 x1 x2 ∧ P2 x0 x1 x2 ∧ P3 x0 x1 x2) (f:∀ x0,∀ x1,∀ x2,P0 x0 x1 x2 → P1 x0 x1 x2 → P2 x0 x1 x2 → P3 x0 x1 x2 → G):G:=by
  obtain ⟨a0,a1,a2,a3,a4,a5,a6⟩:=h
  exact f a0 a1 a2 a3 a4 a5 a6
theorem o_EEEAAAA {T0:Sort _} {T1:Sort _} {T2:Sort _} {P0:T0 → T1 → T2 → Prop} {P1:T0 → T1 → T2 → Prop} {P2:T0 → T1 → T2 → Prop} {P3:T0 → T1 → T2 → Prop} {P4:T0 → T1 → T2 → Prop} {G:Prop} (h:∃ x0,∃ x1,∃ x2,P0 x0 x1 x2 ∧ P1 x0 x1 x2 ∧ P2 x0 x1 x2 ∧ P3 x0 x1 x2 ∧ P4 x0 x1 x2) (f:∀ x0,∀ x1,∀ x2,P0 x0 x1 x2 → P1 x0 x1 x2 → P2 x0 x1 x2 → P3 x0 x1 x2 → P4 x0 x1 x2 → G):G:=by
  obtain ⟨a0,a1,a2,a3,a4,a5,a6,a7⟩:=h
  exact f a0 a1 a2 a3 a4 a5 a6 a7
theorem o_EEEAAAAA {T0:Sort _} {T1:Sort _} {T2:Sort _} {P0:T0 → T1 → T2 → Prop} {P1:T0 → T1 → T2 → Prop} {P2:T0 → T1 → T2 → Prop} {P3:T0 → T1 → T2 → Prop} {P4:T0 → T1 → T2 → Prop} {P5:T0 → T1 → T2 → Prop} {G:Prop} (h:∃ x0,∃ x1,∃ x2,P0 x0 x1 x2 ∧ P1 x0 x1 x2 ∧ P2 x0 x1 x2 ∧ P3 x0 x1 x2 ∧ P4 x0 x1 x2 ∧ P5 x0 x1 x2) (f:∀ x0,∀ x1,∀ x2,P0 x0 x1 x2 → P1 x0 x1 x2 → P2 x0 x1 x2 → P3 x0 x1 x2 → P4 x0 x1 x2 → P5 x0 x1 x2 → G):G:=by
  obtain ⟨a0,a1,a2,a3,a4,a5,a6,a7,a8⟩:=h
  exact f a0 a1 a2 a3 a4 a5 a6 a7 a8
theorem o_EEEEAA {T0:Sort _} {T1:Sort _} {T2:Sort _} {T3:Sort _} {P0:T0 → T1 → T2 → T3 → Prop} {P1:T0 → T1 → T2 → T3 → Prop} {P2:T0 → T1 → T2 → T3 → Prop} {G:Prop} (h:∃ x0,∃ x1,∃ x2,∃ x3,P0 x0 x1 x2 x3 ∧ P1 x0 x1 x2 x3 ∧ P2 x0 x1 x2 x3) (f:∀ x0,∀ x1,∀ x2,∀ x3,P0 x0 x1 x2 x3 → P1 x0 x1 x2 x3 → P2 x0 x1 x2 x3 → G):G:=by
  obtain ⟨a0,a1,a2,a3,a4,a5,a6⟩:=h
  exact f a0 a1 a2 a3 a4 a5 a6
theorem o_EEEEAAAA {T0:Sort _} {T1:Sort _} {T2:Sort _} {T3:Sort _} {P0:T0 → T1 → T2 → T3 → Prop} {P1:T0 → T1 → T2 → T3 → Prop} {P2:T0 → T1 → T2 → T3 → Prop} {P3:T0 → T1 → T2 → T3 → Prop} {P4:T0 → T1 → T2 → T3 → Prop} {G:Prop} (h:∃ x0,∃ x1,∃ x2,∃ x3,P0 x0 x1 x2 x3 ∧ P1 x0 x1 x2 x3 ∧ P2 x0 x1 x2 x3 ∧ P3 x0 x1 x2 x3 ∧ P4 x0 x1 x2 x3) (f:∀ x0,∀ x1,∀ x2,∀ x3,P0 x0 x1 x2 x3 → P1 x0 x1 x2 x3 → P2 x0 x1 x2 x3 → P3 x0 x1 x2 x3 → P4 x0 x1 x2 x3 → G):G:=by
  obtain ⟨a0,a1,a2,a3,a4,a5,a6,a7,a8⟩:=h
  exact f a0 a1 a2 a3 a4 a5 a6 a7 a8
theorem o_EEEEAAAAA {T0:Sort _} {T1:Sort _} {T2:Sort _} {T3:Sort _} {P0:T0 → T1 → T2 → T3 → Prop} {P1:T0 → T1 → T2 → T3 → Prop} {P2:T0 → T1 → T2 → T3 → Prop} {P3:T0 → T1 → T2 → T3 → Prop} {P4:T0 → T1 → T2 → T3 → Prop} {P5:T0 → T1 → T2 → T3 → Prop} {G:Prop} (h:∃ x0,∃ x1,∃ x2,∃ x3,P0 x0 x1 x2 x3 ∧ P1 x0 x1 x2 x3 ∧ P2 x0 x1 x2 x3 ∧ P3 x0 x1 x2 x3 ∧ P4 x0 x1 x2 x3 ∧ P5 x0 x1 x2 x3) (f:∀ x0,∀ x1,∀ x2,∀ x3,P0 x0 x1 x2 x3 → P1 x0 x1 x2 x3 → P2 x0 x1 x2 x3 → P3 x0 x1 x2 x3 → P4 x0 x1 x2 x3 → P5 x0 x1 x2 x3 → G):G:=by
  obtain ⟨a0,a1,a2,a3,a4,a5,a6,a7,a8,a9⟩:=h
  exact f a0 a1 a2 a3 a4 a5 a6 a7 a8 a9
theorem o_EEEEAAAAAA {T0:Sort _} {T1:Sort _} {T2:Sort _} {T3:Sort _} {P0:T0 → T1 → T2 → T3 → Prop} {P1:T0 → T1 → T2 → T3 → Prop} {P2:T0 → T1 → T2 → T3 → Prop} {P3:T0 → T1 → T2 → T3 → Prop} {P4:T0 → T1 → T2 → T3 → Prop} {P5:T0 → T1 → T2 → T3 → Prop} {P6:T0 → T1 → T2 → T3 → Prop} {G:Prop} (h:∃ x0,∃ x1,∃ x2,∃ x3,P0 x0 x1 x2 x3 ∧ P1 x0 x1 x2 x3 ∧ P2 x0 x1 x2 x3 ∧ P3 x0 x1 x2 x3 ∧ P4 x0 x1 x2 x3 ∧ P5 x0 x1 x2 x3 ∧ P6 x0 x1 x2 x3) (f:∀ x0,∀ x1,∀ x2,∀ x3,P0 x0 x1 x2 x3 → P1 x0 x1 x2 x3 → P2 x0 x1 x2 x3 → P3 x0 x1 x2 x3 → P4 x0 x1 x2 x3 → P5 x0 x1 x2 x3 → P6 x0 x1 x2 x3 → G):G:=by
  obtain ⟨a0,a1,a2,a3,a4,a5,a6,a7,a8,a9,a10⟩:=h
  exact f a0 a1 a2 a3 a4 a5 a6 a7 a8 a9 a10
theorem o_EEEEEAAAA {T0:Sort _} {T1:Sort _} {T2:Sort _} {T3:Sort _} {T4:Sort _} {P0:T0 → T1 → T2 → T3 → T4 → Prop} {P1:T0 → T1 → T2 → T3 → T4 → Prop} {P2:T0 → T1 → T2 → T3 → T4 → Prop} {P3:T0 → T1 → T2 → T3 → T4 → Prop} {P4:T0 → T1 → T2 → T3 → T4 → Prop} {G:Prop} (h:∃ x0,∃ x1,∃ x2,∃ x3,∃ x4,P0 x0 x1 x2 x3 x4 ∧ P1 x0 x1 x2 x3 x4 ∧ P2 x0 x1 x2 x3 x4 ∧ P3 x0 x1 x2 x3 x4 ∧ P4 x0 x1 x2 x3 x4) (f:∀ x0,∀ x1,∀ x2,∀ x3,∀ x4,P0 x0 x1 x2 x3 x4 → P1 x0 x1 x2 x3 x4 → P2 x0 x1 x2 x3 x4 → P3 x0 x1 x2 x3 x4 → P4 x0 x1 x2 x3 x4 → G):G:=by
  obtain ⟨a0,a1,a2,a3,a4,a5,a6,a7,a8,a9⟩:=h
  exact f a0 a1 a2 a3 a4 a5 a6 a7 a8 a9
theorem o_EEEEEAAAAA {T0:Sort _} {T1:Sort _} {T2:Sort _} {T3:Sort _} {T4:Sort _} {P0:T0 → T1 → T2 → T3 → T4 → Prop} {P1:T0 → T1 → T2 → T3 → T4 → Prop} {P2:T0 → T1 → T2 → T3 → T4 → Prop} {P3:T0 → T1 → T2 → T3 → T4 → Prop} {P4:T0 → T1 → T2 → T3 → T4 → Prop} {P5:T0 → T1 → T2 → T3 → T4 → Prop} {G:Prop} (h:∃ x0,∃ x1,∃ x2,∃ x3,∃ x4,P0 x0 x1 x2 x3 x4 ∧ P1 x0 x1 x2 x3 x4 ∧ P2 x0 x1 x2 x3 x4 ∧ P3 x0 x1 x2 x3 x4 ∧ P4 x0 x1 x2 x3 x4 ∧ P5 x0 x1 x2 x3 x4) (f:∀ x0,∀ x1,∀ x2,∀ x3,∀ x4,P0 x0 x1 x2 x3 x4 → P1 x0 x1 x2 x3 x4 → P2 x0 x1 x2 x3 x4 → P3 x0 x1 x2 x3 x4 → P4 x0 x1 x2 x3 x4 → P5 x0 x1 x2 x3 x4 → G):G:=by
  obtain ⟨a0,a1,a2,a3,a4,a5,a6,a7,a8,a9,a10⟩:=h
  exact f a0 a1 a2 a3 a4 a5 a6 a7 a8 a9 a10
theorem o_EEEEEEAAA {T0:Sort _} {T1:Sort _} {T2:Sort _} {T3:Sort _} {T4:Sort _} {T5:Sort _} {P0:T0 → T1 → T2 → T3 → T4 → T5 → Prop} {P1:T0 → T1 → T2 → T3 → T4 → T5 → Prop} {P2:T0 → T1 → T2 → T3 → T4 → T5 → Prop} {P3:T0 → T1 → T2 → T3 → T4 → T5 → Prop} {G:Prop} (h:∃ x0,∃ x1,∃ x2,∃ x3,∃ x4,∃ x5,P0 x0 x1 x2 x3 x4 x5 ∧ P1 x0 x1 x2 x3 x4 x5 ∧ P2 x0 x1 x2 x3 x4 x5 ∧ P3 x0 x1 x2 x3 x4 x5) (f:∀ x0,∀ x1,∀ x2,∀ x3,∀ x4,∀ x5,P0 x0 x1 x2 x3 x4 x5 → P1 x0 x1 x2 x3 x4 x5 → P2 x0 x1 x2 x3 x4 x5 → P3 x0 x1 x2 x3 x4 x5 → G):G:=by
  obtain ⟨a0,a1,a2,a3,a4,a5,a6,a7,a8,a9⟩:=h
  exact f a0 a1 a2 a3 a4 a5 a6 a7 a8 a9
theorem o_EEEEEEEAAAAA {T0:Sort _} {T1:Sort _} {T2:Sort _} {T3:Sort _} {T4:Sort _} {T5:Sort _} {T6:Sort _} {P0:T0 → T1 → T2 → T3 → T4 → T5 → T6 → Prop} {P1:T0 → T1 → T2 → T3 → T4 → T5 → T6 → Prop} {P2:T0 → T1 → T2 → T3 → T4 → T5 → T6 → Prop} {P3:T0 → T1 → T2 → T3 → T4 → T5 → T6 → Prop} {P4:T0 → T1 → T2 → T3 → T4 → T5 → T6 → Prop} {P5:T0 → T1 → T2 → T3 → T4 → T5 → T6 → Prop} {G:Prop} (h:∃ x0,∃ x1,∃ x2,∃ x3,∃ x4,∃ x5,∃ x6,P0 x0 x1 x2 x3 x4 x5 x6 ∧ P1 x0 x1 x2 x3 x4 x5 x6 ∧ P2 x0 x1 x2 x3 x4 x5 x6 ∧ P3 x0 x1 x2 x3 x4 x5 x6 ∧ P4 x0 x1 x2 x3 x4 x5 x6 ∧ P5 x0 x1 x2 x3 x4 x5 x6) (f:∀ x0,∀ x1,∀ x2,∀ x3,∀ x4,∀ x5,∀ x6,P0 x0 x1 x2 x3 x4 x5 x6 → P1 x0 x1 x2 x3 x4 x5 x6 → P2 x0 x1 x2 x3 x4 x5 x6 → P3 x0 x1 x2 x3 x4 x5 x6 → P4 x0 x1 x2 x3 x4 x5 x6 → P5 x0 x1 x2 x3 x4 x5 x6 → G):G:=by
  obtain ⟨a0,a1,a2,a3,a4,a5,a6,a7,a8,a9,a10,a11,a12⟩:=h
  exact f a0 a1 a2 a3 a4 a5 a6 a7 a8 a9 a10 a11 a12
theorem o_EEEEEEEEAA {T0:Sort _} {T1:Sort _} {T2:Sort _} {T3:Sort _} {T4:Sort _} {T5:Sort _} {T6:Sort _} {T7:Sort _} {P0:T0 → T1 → T2 → T3 → T4 → T5 → T6 → T7 → Prop} {P1:T0 → T1 → T2 → T3 → T4 → T5 → T6 → T7 → Prop} {P2:T0 → T1 → T2 → T3 → T4 → T5 → T6 → T7 → Prop} {G:Prop} (h:∃ x0,∃ x1,∃ x2,∃ x3,∃ x4,∃ x5,∃ x6,∃ x7,P0 x0 x1 x2 x3 x4 x5 x6 x7 ∧ P1 x0 x1 x2 x3 x4 x5 x6 x7 ∧ P2 x0 x1 x2 x3 x4 x5 x6 x7) (f:∀ x0,∀ x1,∀ x2,∀ x3,∀ x4,∀ x5,∀ x6,∀ x7,P0 x0 x1 x2 x3 x4 x5 x6 x7 → P1 x0 x1 x2 x3 x4 x5 x6 x7 → P2 x0 x1 x2 x3 x4 x5 x6 x7 → G):G:=by
  obtain ⟨a0,a1,a2,a3,a4,a5,a6,a7,a8,a9,a10⟩:=h
  exact f a0 a1 a2 a3 a4 a5 a6 a7 a8 a9 a10
theorem o_EEEEEEEEEAA {T0:Sort _} {T1:Sort _} {T2:Sort _} {T3:Sort _} {T4:Sort _} {T5:Sort _} {T6:Sort _} {T7:Sort _} {T8:Sort _} {P0:T0 → T1 → T2 → T3 → T4 → T5 → T6 → T7 → T8 → Prop} {P1:T0 → T1 → T2 → T3 → T4 → T5 → T6 → T7 → T8 → Prop} {P2:T0 → T1 → T2 → T3 → T4 → T5 → T6 → T7 → T8 → Prop} {G:Prop} (h:∃ x0,∃ x1,∃ x2,∃ x3,∃ x4,∃ x5,∃ x6,∃ x7,∃ x8,P0 x0 x1 x2 x3 x4 x5 x6 x7 x8 ∧ P1 x0 x1 x2 x3 x4 x5 x6 x7 x8 ∧ P2 x0 x1 x2 x3 x4 x5 x6 x7 x8) (f:∀ x0,∀ x1,∀ x2,∀ x3,∀ x4,∀ x5,∀ x6,∀ x7,∀ x8,P0 x0 x1 x2 x3 x4 x5 x6 x7 x8 → P1 x0 x1 x2 x3 x4 x5 x6 x7 x8 → P2 x0 x1 x2 x3 x4 x5 x6 x7 x8 → G):G:=by
  obtain ⟨a0,a1,a2,a3,a4,a5,a6,a7,a8,a9,a10,a11⟩:=h
  exact f a0 a1 a2 a3 a4 a5 a6 a7 a8 a9 a10 a11
theorem o_EEEEEEEEEAAAAAAA {T0:Sort _} {T1:Sort _} {T2:Sort _} {T3:Sort _} {T4:Sort _} {T5:Sort _} {T6:Sort _} {T7:Sort _} {T8:Sort _} {P0:T0 → T1 → T2 → T3 → T4 → T5 → T6 → T7 → T8 → Prop} {P1:T0 → T1 → T2 → T3 → T4 → T5 → T6 → T7 → T8 → Prop} {P2:T0 → T1 → T2 → T3 → T4 → T5 → T6 → T7 → T8 → Prop} {P3:T0 → T1 → T2 → T3 → T4 → T5 → T6 → T7 → T8 → Prop} {P4:T0 → T1 → T2 → T3 → T4 → T5 → T6 → T7 → T8 → Prop} {P5:T0 → T1 → T2 → T3 → T4 → T5 → T6 → T7 → T8 → Prop} {P6:T0 → T1 → T2 → T3 → T4 → T5 → T6 → T7 → T8 → Prop} {P7:T0 → T1 → T2 → T3 → T4 → T5 → T6 → T7 → T8 → Prop} {G:Prop} (h:∃ x0,∃ x1,∃ x2,∃ x3,∃ x4,∃ x5,∃ x6,∃ x7,∃ x8,P0 x0 x1 x2 x3 x4 x5 x6 x7 x8 ∧ P1 x0 x1 x2 x3 x4 x5 x6 x7 x8 ∧ P2 x0 x1 x2 x3 x4 x5 x6 x7 x8 ∧ P3 x0 x1 x2 x3 x4 x5 x6 x7 x8 ∧ P4 x0 x1 x2 x3 x4 x5 x6 x7 x8 ∧ P5 x0 x1 x2 x3 x4 x5 x6 x7 x8 ∧ P6 x0 x1 x2 x3 x4 x5 x6 x7 x8 ∧ P7 x0 x1 x2 x3 x4 x5 x6 x7 x8) (f:∀ x0,∀ x1,∀ x2,∀ x3,∀ x4,∀ x5,∀ x6,∀ x7,∀ x8,P0 x0 x1 x2 x3 x4 x5 x6 x7 x8 → P1 x0 x1 x2 x3 x4 x5 x6 x7 x8 → P2 x0 x1 x2 x3 x4 x5 x6 x7 x8 → P3 x0 x1 x2 x3 x4 x5 x6 x7 x8 → P4 x0 x1 x2 x3 x4 x5 x6 x7 x8 → P5 x0 x1 x2 x3 x4 x5 x6 x7 x8 → P6 x0 x1 x2 x3 x4 x5 x6 x7 x8 → P7 x0 x1 x2 x3 x4 x5 x6 x7 x8 → G):G:=by
  obtain ⟨a0,a1,a2,a3,a4,a5,a6,a7,a8,a9,a10,a11,a12,a13,a14,a15,a16⟩:=h
  exact f a0 a1 a2 a3 a4 a5 a6 a7 a8 a9 a10 a11 a12 a13 a14 a15 a16
theorem i_AAEAEEEA {T0:Sort _} {T1:Sort _} {T2:Sort _} {T3:Sort _} {P0:Prop} {P1:Prop} {P2:T0 → Prop} {P3:T0 → T1 → T2 → T3 → Prop} {P4:T0 → T1 → T2 → T3 → Prop} (p0:P0) (p1:P1) (x0:T0) (p2:P2 x0) (x1:T1) (x2:T2) (x3:T3) (p3:P3 x0 x1 x2 x3) (p4:P4 x0 x1 x2 x3):P0 ∧ P1 ∧ ∃ x0,P2 x0 ∧ ∃ x1,∃ x2,∃ x3,P3 x0 x1 x2 x3 ∧ P4 x0 x1 x2 x3:=⟨p0,p1,x0,p2,x1,x2,x3,p3,p4⟩
theorem i_AAEEA {T0:Sort _} {T1:Sort _} {P0:Prop} {P1:Prop} {P2:T0 → T1 → Prop} {P3:T0 → T1 → Prop} (p0:P0) (p1:P1) (x0:T0) (x1:T1) (p2:P2 x0 x1) (p3:P3 x0 x1):P0 ∧ P1 ∧ ∃ x0,∃ x1,P2 x0 x1 ∧ P3 x0 x1:=⟨p0,p1,x0,x1,p2,p3⟩
theorem i_AEEA {T0:Sort _} {T1:Sort _} {P0:Prop} {P1:T0 → T1 → Prop} {P2:T0 → T1 → Prop} (p0:P0) (x0:T0) (x1:T1) (p1:P1 x0 x1) (p2:P2 x0 x1):P0 ∧ ∃ x0,∃ x1,P1 x0 x1 ∧ P2 x0 x1:=⟨p0,x0,x1,p1,p2⟩
theorem i_AEEAA {T0:Sort _} {T1:Sort _} {P0:Prop} {P1:T0 → T1 → Prop} {P2:T0 → T1 → Prop} {P3:T0 → T1 → Prop} (p0:P0) (x0:T0) (x1:T1) (p1:P1 x0 x1) (p2:P2 x0 x1) (p3:P3 x0 x1):P0 ∧ ∃ x0,∃ x1,P1 x0 x1 ∧ P2 x0 x1 ∧ P3 x0 x1:=⟨p0,x0,x1,p1,p2,p3⟩
theorem i_AEEEAAAA {T0:Sort _} {T1:Sort _} {T2:Sort _} {P0:Prop} {P1:T0 → T1 → T2 → Prop} {P2:T0 → T1 → T2 → Prop} {P3:T0 → T1 → T2 → Prop} {P4:T0 → T1 → T2 → Prop} {P5:T0 → T1 → T2 → Prop} (p0:P0) (x0:T0) (x1:T1) (x2:T2) (p1:P1 x0 x1 x2) (p2:P2 x0 x1 x2) (p3:P3 x0 x1 x2) (p4:P4 x0 x1 x2) (p5:P5 x0 x1 x2):P0 ∧ ∃ x0,∃ x1,∃ x2,P1 x0 x1 x2 ∧ P2 x0 x1 x2 ∧ P3 x0 x1 x2 ∧ P4 x0 x1 x2 ∧ P5 x0 x1 x2:=⟨p0,x0,x1,x2,p1,p2,p3,p4,p5⟩
theorem i_EAEEA {T0:Sort _} {T1:Sort _} {T2:Sort _} {P0:T0 → Prop} {P1:T0 → T1 → T2 → Prop} {P2:T0 → T1 → T2 → Prop} (x0:T0) (p0:P0 x0) (x1:T1) (x2:T2) (p1:P1 x0 x1 x2) (p2:P2 x0 x1 x2):∃ x0,P0 x0 ∧ ∃ x1,∃ x2,P1 x0 x1 x2 ∧ P2 x0 x1 x2:=⟨x0,p0,x1,x2,p1,p2⟩
theorem i_EAEEEAAA {T0:Sort _} {T1:Sort _} {T2:Sort _} {T3:Sort _} {P0:T0 → Prop} {P1:T0 → T1 → T2 → T3 → Prop} {P2:T0 → T1 → T2 → T3 → Prop} {P3:T0 → T1 → T2 → T3 → Prop} {P4:T0 → T1 → T2 → T3 → Prop} (x0:T0) (p0:P0 x0) (x1:T1) (x2:T2) (x3:T3) (p1:P1 x0 x1 x2 x3) (p2:P2 x0 x1 x2 x3) (p3:P3 x0 x1 x2 x3) (p4:P4 x0 x1 x2 x3):∃ x0,P0 x0 ∧ ∃ x1,∃ x2,∃ x3,P1 x0 x1 x2 x3 ∧ P2 x0 x1 x2 x3 ∧ P3 x0 x1 x2 x3 ∧ P4 x0 x1 x2 x3:=⟨x0,p0,x1,x2,x3,p1,p2,p3,p4⟩
theorem i_EEA {T0:Sort _} {T1:Sort _} {P0:T0 → T1 → Prop} {P1:T0 → T1 → Prop} (x0:T0) (x1:T1) (p0:P0 x0 x1) (p1:P1 x0 x1):∃ x0,∃ x1,P0 x0 x1 ∧ P1 x0 x1:=⟨x0,x1,p0,p1⟩
theorem i_EEAA {T0:Sort _} {T1:Sort _} {P0:T0 → T1 → Prop} {P1:T0 → T1 → Prop} {P2:T0 → T1 → Prop} (x0:T0) (x1:T1) (p0:P0 x0 x1) (p1:P1 x0 x1) (p2:P2 x0 x1):∃ x0,∃ x1,P0 x0 x1 ∧ P1 x0 x1 ∧ P2 x0 x1:=⟨x0,x1,p0,p1,p2⟩
theorem i_EEAAA {T0:Sort _} {T1:Sort _} {P0:T0 → T1 → Prop} {P1:T0 → T1 → Prop} {P2:T0 → T1 → Prop} {P3:T0 → T1 → Prop} (x0:T0) (x1:T1) (p0:P0 x0 x1) (p1:P1 x0 x1) (p2:P2 x0 x1) (p3:P3 x0 x1):∃ x0,∃ x1,P0 x0 x1 ∧ P1 x0 x1 ∧ P2 x0 x1 ∧ P3 x0 x1:=⟨x0,x1,p0,p1,p2,p3⟩
theorem i_EEAAAA {T0:Sort _} {T1:Sort _} {P0:T0 → T1 → Prop} {P1:T0 → T1 → Prop} {P2:T0 → T1 → Prop} {P3:T0 → T1 → Prop} {P4:T0 → T1 → Prop} (x0:T0) (x1:T1) (p0:P0 x0 x1) (p1:P1 x0 x1) (p2:P2 x0 x1) (p3:P3 x0 x1) (p4:P4 x0 x1):∃ x0,∃ x1,P0 x0 x1 ∧ P1 x0 x1 ∧ P2 x0 x1 ∧ P3 x0 x1 ∧ P4 x0 x1:=⟨x0,x1,p0,p1,p2,p3,p4⟩
theorem i_EEAAAAA {T0:Sort _} {T1:Sort _} {P0:T0 → T1 → Prop} {P1:T0 → T1 → Prop} {P2:T0 → T1 → Prop} {P3:T0 → T1 → Prop} {P4:T0 → T1 → Prop} {P5:T0 → T1 → Prop} (x0:T0) (x1:T1) (p0:P0 x0 x1) (p1:P1 x0 x1) (p2:P2 x0 x1) (p3:P3 x0 x1) (p4:P4 x0 x1) (p5:P5 x0 x1):∃ x0,∃ x1,P0 x0 x1 ∧ P1 x0 x1 ∧ P2 x0 x1 ∧ P3 x0 x1 ∧ P4 x0 x1 ∧ P5 x0 x1:=⟨x0,x1,p0,p1,p2,p3,p4,p5⟩
theorem i_EEAAAAAAA {T0:Sort _} {T1:Sort _} {P0:T0 → T1 → Prop} {P1:T0 → T1 → Prop} {P2:T0 → T1 → Prop} {P3:T0 → T1 → Prop} {P4:T0 → T1 → Prop} {P5:T0 → T1 → Prop} {P6:T0 → T1 → Prop} {P7:T0 → T1 → Prop} (x0:T0) (x1:T1) (p0:P0 x0 x1) (p1:P1 x0 x1) (p2:P2 x0 x1) (p3:P3 x0 x1) (p4:P4 x0 x1) (p5:P5 x0 x1) (p6:P6 x0 x1) (p7:P7 x0 x1):∃ x0,∃ x1,P0 x0 x1 ∧ P1 x0 x1 ∧ P2 x0 x1 ∧ P3 x0 x1 ∧ P4 x0 x1 ∧ P5 x0 x1 ∧ P6 x0 x1 ∧ P7 x0 x1:=⟨x0,x1,p0,p1,p2,p3,p4,p5,p6,p7⟩
theorem i_EEEA {T0:Sort _} {T1:Sort _} {T2:Sort _} {P0:T0 → T1 → T2 → Prop} {P1:T0 → T1 → T2 → Prop} (x0:T0) (x1:T1) (x2:T2) (p0:P0 x0 x1 x2) (p1:P1 x0 x1 x2):∃ x0,∃ x1,∃ x2,P0 x0 x1 x2 ∧ P1 x0 x1 x2:=⟨x0,x1,x2,p0,p1⟩
theorem i_EEEAA {T0:Sort _} {T1:Sort _} {T2:Sort _} {P0:T0 → T1 → T2 → Prop} {P1:T0 → T1 → T2 → Prop} {P2:T0 → T1 → T2 → Prop} (x0:T0) (x1:T1) (x2:T2) (p0:P0 x0 x1 x2) (p1:P1 x0 x1 x2) (p2:P2 x0 x1 x2):∃ x0,∃ x1,∃ x2,P0 x0 x1 x2 ∧ P1 x0 x1 x2 ∧ P2 x0 x1 x2:=⟨x0,x1,x2,p0,p1,p2⟩
theorem i_EEEAAA {T0:Sort _} {T1:Sort _} {T2:Sort _} {P0:T0 → T1 → T2 → Prop} {P1:T0 → T1 → T2 → Prop} {P2:T0 → T1 → T2 → Prop} {P3:T0 → T1 → T2 → Prop} (x0:T0) (x1:T1) (x2:T2) (p0:P0 x0 x1 x2) (p1:P1 x0 x1 x2) (p2:P2 x0 x1 x2) (p3:P3 x0 x1 x2):∃ x0,∃ x1,∃ x2,P0 x0 x1 x2 ∧ P1 x0 x1 x2 ∧ P2 x0 x1 x2 ∧ P3 x0 x1 x2:=⟨x0,x1,x2,p0,p1,p2,p3⟩
theorem i_EEEAAAA {T0:Sort _} {T1:Sort _} {T2:Sort _} {P0:T0 → T1 → T2 → Prop} {P1:T0 → T1 → T2 → Prop} {P2:T0 → T1 → T2 → Prop} {P3:T0 → T1 → T2 → Prop} {P4:T0 → T1 → T2 → Prop} (x0:T0) (x1:T1) (x2:T2) (p0:P0 x0 x1 x2) (p1:P1 x0 x1 x2) (p2:P2 x0 x1 x2) (p3:P3 x0 x1 x2) (p4:P4 x0 x1 x2):∃ x0,∃ x1,∃ x2,P0 x0 x1 x2 ∧ P1 x0 x1 x2 ∧ P2 x0 x1 x2 ∧ P3 x0 x1 x2 ∧ P4 x0 x1 x2:=⟨x0,x1,x2,p0,p1,p2,p3,p4⟩
theorem i_EEEAAAAA {T0:Sort _} {T1:Sort _} {T2:Sort _} {P0:T0 → T1 → T2 → Prop} {P1:T0 → T1 → T2 → Prop} {P2:T0 → T1 → T2 → Prop} {P3:T0 → T1 → T2 → Prop} {P4:T0 → T1 → T2 → Prop} {P5:T0 → T1 → T2 → Prop} (x0:T0) (x1:T1) (x2:T2) (p0:P0 x0 x1 x2) (p1:P1 x0 x1 x2) (p2:P2 x0 x1 x2) (p3:P3 x0 x1 x2) (p4:P4 x0 x1 x2) (p5:P5 x0 x1 x2):∃ x0,∃ x1,∃ x2,P0 x0 x1 x2 ∧ P1 x0 x1 x2 ∧ P2 x0 x1 x2 ∧ P3 x0 x1 x2 ∧ P4 x0 x1 x2 ∧ P5 x0 x1 x2:=⟨x0,x1,x2,p0,p1,p2,p3,p4,p5⟩
theorem i_EEEEAAAAA {T0:Sort _} {T1:Sort _} {T2:Sort _} {T3:Sort _} {P0:T0 → T1 → T2 → T3 → Prop} {P1:T0 → T1 → T2 → T3 → Prop} {P2:T0 → T1 → T2 → T3 → Prop} {P3:T0 → T1 → T2 → T3 → Prop} {P4:T0 → T1 → T2 → T3 → Prop} {P5:T0 → T1 → T2 → T3 → Prop} (x0:T0) (x1:T1) (x2:T2) (x3:T3) (p0:P0 x0 x1 x2 x3) (p1:P1 x0 x1 x2 x3) (p2:P2 x0 x1 x2 x3) (p3:P3 x0 x1 x2 x3) (p4:P4 x0 x1 x2 x3) (p5:P5 x0 x1 x2 x3):∃ x0,∃ x1,∃ x2,∃ x3,P0 x0 x1 x2 x3 ∧ P1 x0 x1 x2 x3 ∧ P2 x0 x1 x2 x3 ∧ P3 x0 x1 x2 x3 ∧ P4 x0 x1 x2 x3 ∧ P5 x0 x1 x2 x3:=⟨x0,x1,x2,x3,p0,p1,p2,p3,p4,p5⟩
theorem i_EEEEEAAAA {T0:Sort _} {T1:Sort _} {T2:Sort _} {T3:Sort _} {T4:Sort _} {P0:T0 → T1 → T2 → T3 → T4 → Prop} {P1:T0 → T1 → T2 → T3 → T4 → Prop} {P2:T0 → T1 → T2 → T3 → T4 → Prop} {P3:T0 → T1 → T2 → T3 → T4 → Prop} {P4:T0 → T1 → T2 → T3 → T4 → Prop} (x0:T0) (x1:T1) (x2:T2) (x3:T3) (x4:T4) (p0:P0 x0 x1 x2 x3 x4) (p1:P1 x0 x1 x2 x3 x4) (p2:P2 x0 x1 x2 x3 x4) (p3:P3 x0 x1 x2 x3 x4) (p4:P4 x0 x1 x2 x3 x4):∃ x0,∃ x1,∃ x2,∃ x3,∃ x4,P0 x0 x1 x2 x3 x4 ∧ P1 x0 x1 x2 x3 x4 ∧ P2 x0 x1 x2 x3 x4 ∧ P3 x0 x1 x2 x3 x4 ∧ P4 x0 x1 x2 x3 x4:=⟨x0,x1,x2,x3,x4,p0,p1,p2,p3,p4⟩
theorem i_EEEEEAAAAA {T0:Sort _} {T1:Sort _} {T2:Sort _} {T3:Sort _} {T4:Sort _} {P0:T0 → T1 → T2 → T3 → T4 → Prop} {P1:T0 → T1 → T2 → T3 → T4 → Prop} {P2:T0 → T1 → T2 → T3 → T4 → Prop} {P3:T0 → T1 → T2 → T3 → T4 → Prop} {P4:T0 → T1 → T2 → T3 → T4 → Prop} {P5:T0 → T1 → T2 → T3 → T4 → Prop} (x0:T0) (x1:T1) (x2:T2) (x3:T3) (x4:T4) (p0:P0 x0 x1 x2 x3 x4) (p1:P1 x0 x1 x2 x3 x4) (p2:P2 x0 x1 x2 x3 x4) (p3:P3 x0 x1 x2 x3 x4) (p4:P4 x0 x1 x2 x3 x4) (p5:P5 x0 x1 x2 x3 x4):∃ x0,∃ x1,∃ x2,∃ x3,∃ x4,P0 x0 x1 x2 x3 x4 ∧ P1 x0 x1 x2 x3 x4 ∧ P2 x0 x1 x2 x3 x4 ∧ P3 x0 x1 x2 x3 x4 ∧ P4 x0 x1 x2 x3 x4 ∧ P5 x0 x1 x2 x3 x4:=⟨x0,x1,x2,x3,x4,p0,p1,p2,p3,p4,p5⟩
theorem i_EEEEEEAAA {T0:Sort _} {T1:Sort _} {T2:Sort _} {T3:Sort _} {T4:Sort _} {T5:Sort _} {P0:T0 → T1 → T2 → T3 → T4 → T5 → Prop} {P1:T0 → T1 → T2 → T3 → T4 → T5 → Prop} {P2:T0 → T1 → T2 → T3 → T4 → T5 → Prop} {P3:T0 → T1 → T2 → T3 → T4 → T5 → Prop} (x0:T0) (x1:T1) (x2:T2) (x3:T3) (x4:T4) (x5:T5) (p0:P0 x0 x1 x2 x3 x4 x5) (p1:P1 x0 x1 x2 x3 x4 x5) (p2:P2 x0 x1 x2 x3 x4 x5) (p3:P3 x0 x1 x2 x3 x4 x5):∃ x0,∃ x1,∃ x2,∃ x3,∃ x4,∃ x5,P0 x0 x1 x2 x3 x4 x5 ∧ P1 x0 x1 x2 x3 x4 x5 ∧ P2 x0 x1 x2 x3 x4 x5 ∧ P3 x0 x1 x2 x3 x4 x5:=⟨x0,x1,x2,x3,x4,x5,p0,p1,p2,p3⟩
theorem i_EEEEEEEAAAAA {T0:Sort _} {T1:Sort _} {T2:Sort _} {T3:Sort _} {T4:Sort _} {T5:Sort _} {T6:Sort _} {P0:T0 → T1 → T2 → T3 → T4 → T5 → T6 → Prop} {P1:T0 → T1 → T2 → T3 → T4 → T5 → T6 → Prop} {P2:T0 → T1 → T2 → T3 → T4 → T5 → T6 → Prop} {P3:T0 → T1 → T2 → T3 → T4 → T5 → T6 → Prop} {P4:T0 → T1 → T2 → T3 → T4 → T5 → T6 → Prop} {P5:T0 → T1 → T2 → T3 → T4 → T5 → T6 → Prop} (x0:T0) (x1:T1) (x2:T2) (x3:T3) (x4:T4) (x5:T5) (x6:T6) (p0:P0 x0 x1 x2 x3 x4 x5 x6) (p1:P1 x0 x1 x2 x3 x4 x5 x6) (p2:P2 x0 x1 x2 x3 x4 x5 x6) (p3:P3 x0 x1 x2 x3 x4 x5 x6) (p4:P4 x0 x1 x2 x3 x4 x5 x6) (p5:P5 x0 x1 x2 x3 x4 x5 x6):∃ x0,∃ x1,∃ x2,∃ x3,∃ x4,∃ x5,∃ x6,P0 x0 x1 x2 x3 x4 x5 x6 ∧ P1 x0 x1 x2 x3 x4 x5 x6 ∧ P2 x0 x1 x2 x3 x4 x5 x6 ∧ P3 x0 x1 x2 x3 x4 x5 x6 ∧ P4 x0 x1 x2 x3 x4 x5 x6 ∧ P5 x0 x1 x2 x3 x4 x5 x6:=⟨x0,x1,x2,x3,x4,x5,x6,p0,p1,p2,p3,p4,p5⟩
theorem i_EEEEEEEEAA {T0:Sort _} {T1:Sort _} {T2:Sort _} {T3:Sort _} {T4:Sort _} {T5:Sort _} {T6:Sort _} {T7:Sort _} {P0:T0 → T1 → T2 → T3 → T4 → T5 → T6 → T7 → Prop} {P1:T0 → T1 → T2 → T3 → T4 → T5 → T6 → T7 → Prop} {P2:T0 → T1 → T2 → T3 → T4 → T5 → T6 → T7 → Prop} (x0:T0) (x1:T1) (x2:T2) (x3:T3) (x4:T4) (x5:T5) (x6:T6) (x7:T7) (p0:P0 x0 x1 x2 x3 x4 x5 x6 x7) (p1:P1 x0 x1 x2 x3 x4 x5 x6 x7) (p2:P2 x0 x1 x2 x3 x4 x5 x6 x7):∃ x0,∃ x1,∃ x2,∃ x3,∃ x4,∃ x5,∃ x6,∃ x7,P0 x0 x1 x2 x3 x4 x5 x6 x7 ∧ P1 x0 x1 x2 x3 x4 x5 x6 x7 ∧ P2 x0 x1 x2 x3 x4 x5 x6 x7:=⟨x0,x1,x2,x3,x4,x5,x6,x7,p0,p1,p2⟩
theorem i_EEEEEEEEEAA {T0:Sort _} {T1:Sort _} {T2:Sort _} {T3:Sort _} {T4:Sort _} {T5:Sort _} {T6:Sort _} {T7:Sort _} {T8:Sort _} {P0:T0 → T1 → T2 → T3 → T4 → T5 → T6 → T7 → T8 → Prop} {P1:T0 → T1 → T2 → T3 → T4 → T5 → T6 → T7 → T8 → Prop} {P2:T0 → T1 → T2 → T3 → T4 → T5 → T6 → T7 → T8 → Prop} (x0:T0) (x1:T1) (x2:T2) (x3:T3) (x4:T4) (x5:T5) (x6:T6) (x7:T7) (x8:T8) (p0:P0 x0 x1 x2 x3 x4 x5 x6 x7 x8) (p1:P1 x0 x1 x2 x3 x4 x5 x6 x7 x8) (p2:P2 x0 x1 x2 x3 x4 x5 x6 x7 x8):∃ x0,∃ x1,∃ x2,∃ x3,∃ x4,∃ x5,∃ x6,∃ x7,∃ x8,P0 x0 x1 x2 x3 x4 x5 x6 x7 x8 ∧ P1 x0 x1 x2 x3 x4 x5 x6 x7 x8 ∧ P2 x0 x1 x2 x3 x4 x5 x6 x7 x8:=⟨x0,x1,x2,x3,x4,x5,x6,x7,x8,p0,p1,p2⟩
theorem i_EEEEEEEEEAAAAAAA {T0:Sort _} {T1:Sort _} {T2:Sort _} {T3:Sort _} {T4:Sort _} {T5:Sort _} {T6:Sort _} {T7:Sort _} {T8:Sort _} {P0:T0 → T1 → T2 → T3 → T4 → T5 → T6 → T7 → T8 → Prop} {P1:T0 → T1 → T2 → T3 → T4 → T5 → T6 → T7 → T8 → Prop} {P2:T0 → T1 → T2 → T3 → T4 → T5 → T6 → T7 → T8 → Prop} {P3:T0 → T1 → T2 → T3 → T4 → T5 → T6 → T7 → T8 → Prop} {P4:T0 → T1 → T2 → T3 → T4 → T5 → T6 → T7 → T8 → Prop} {P5:T0 → T1 → T2 → T3 → T4 → T5 → T6 → T7 → T8 → Prop} {P6:T0 → T1 → T2 → T3 → T4 → T5 → T6 → T7 → T8 → Prop} {P7:T0 → T1 → T2 → T3 → T4 → T5 → T6 → T7 → T8 → Prop} (x0:T0) (x1:T1) (x2:T2) (x3:T3) (x4:T4) (x5:T5) (x6:T6) (x7:T7) (x8:T8) (p0:P0 x0 x1 x2 x3 x4 x5 x6 x7 x8) (p1:P1 x0 x1 x2 x3 x4 x5 x6 x7 x8) (p2:P2 x0 x1 x2 x3 x4 x5 x6 x7 x8) (p3:P3 x0 x1 x2 x3 x4 x5 x6 x7 x8) (p4:P4 x0 x1 x2 x3 x4 x5 x6 x7 x8) (p5:P5 x0 x1 x2 x3 x4 x5 x6 x7 x8) (p6:P6 x0 x1 x2 x3 x4 x5 x6 x7 x8) (p7:P7 x0 x1 x2 x3 x4 x5 x6 x7 x8):∃ x0,∃ x1,∃ x2,∃ x3,∃ x4,∃ x5,∃ x6,∃ x7,∃ x8,P0 x0 x1 x2 x3 x4 x5 x6 x7 x8 ∧ P1 x0 x1 x2 x3 x4 x5 x6 x7 x8 ∧ P2 x0 x1 x2 x3 x4 x5 x6 x7 x8 ∧ P3 x0 x1 x2 x3 x4 x5 x6 x7 x8 ∧ P4 x0 x1 x2 x3 x4 x5 x6 x7 x8 ∧ P5 x0 x1 x2 x3 x4 x5 x6 x7 x8 ∧ P6 x0 x1 x2 x3 x4 x5 x6 x7 x8 ∧ P7 x0 x1 x2 x3 x4 x5 x6 x7 x8:=⟨x0,x1,x2,x3,x4,x5,x6,x7,x8,p0,p1,p2,p3,p4,p5,p6,p7⟩
theorem no_ns {α:Type _} {a:α} {G:Prop} (h:none = some a):G:=nomatch h
theorem no_sn {α:Type _} {a:α} {G:Prop} (h:some a = none):G:=nomatch h
theorem no_ft {G:Prop} (h:false = true):G:=nomatch h
end L2
namespace L2
open PySem PySem.Spec PyProof.Rows
noncomputable abbrev Key:=Sum Int Str
noncomputable def keyIs:Key → Value → Bool
  | .inl k,v=>Value.isInt k v
  | .inr x,v=>Value.isStrOf x v
noncomputable def keyH (w:World):Key → Int
  | .inl k=>hashInt k
  | .inr x=>hashStr w x
theorem keyIs_shape:∀ {k:Key} {v:Value},keyIs k v = true → (∃ i t,k = Sum.inl i ∧ v = Value.int i t) ∨ (∃ x t,k = Sum.inr x ∧ v = Value.str x t)
  | .inl i,v,h=>by
    refine L2.o_E (Value.isInt_shape (k:=i) (v:=v) h) fun t e=>?_
    exact .inl ⟨i,t,rfl,e⟩
  | .inr x,v,h=>by
    refine L2.o_E (Value.isStrOf_shape (x:=x) (v:=v) h) fun t e=>?_
    exact .inr ⟨x,t,rfl,e⟩
theorem key_ll (a b:Int):decide ((Sum.inl a:Key) = Sum.inl b) = (a == b):=by
  by_cases e:a = b
  · subst e; simp
  · have h:¬ (Sum.inl a:Key) = Sum.inl b:=fun q=>e (Sum.inl.inj q)
    rw [decide_eq_false h]
    exact (beq_eq_false_iff_ne.mpr e).symm
theorem key_rr (a b:Str):decide ((Sum.inr a:Key) = Sum.inr b) = decide (a = b):=by
  by_cases e:a = b
  · subst e; simp
  · have h:¬ (Sum.inr a:Key) = Sum.inr b:=fun q=>e (Sum.inr.inj q)
    rw [decide_eq_false h,decide_eq_false e]
theorem key_lr (a:Int) (b:Str):decide ((Sum.inl a:Key) = Sum.inr b) = false:=decide_eq_false (fun q=>nomatch q)
theorem key_rl (a:Str) (b:Int):decide ((Sum.inr a:Key) = Sum.inl b) = false:=decide_eq_false (fun q=>nomatch q)
noncomputable def mixKind (prog:Program) (w:World):PySem.KeyKind prog w Key where
  is:=keyIs
  hash:=keyH w
  inj:=fun v a b ha hb=>by
    rcases keyIs_shape ha with ⟨i,t,rfl,rfl⟩ | ⟨x,t,rfl,rfl⟩
    · rcases keyIs_shape hb with ⟨j,u,rfl,e⟩ | ⟨y,u,rfl,e⟩
      · injection e with e1 _; rw [e1]
      · exact nomatch e
    · rcases keyIs_shape hb with ⟨j,u,rfl,e⟩ | ⟨y,u,rfl,e⟩
      · exact nomatch e
      · injection e with e1 _; rw [e1]
  byValue:=fun k v h=>by
    rcases keyIs_shape h with ⟨i,t,rfl,rfl⟩ | ⟨x,t,rfl,rfl⟩ <;> rfl
  pyHash:=fun hv h=>by
    rcases keyIs_shape hv with ⟨i,t,rfl,rfl⟩ | ⟨x,t,rfl,rfl⟩
    · exact wpAny_pyHash_int h
    · exact wpAny_pyHash_str h
  eqBool:=fun hu hv h=>by
    rcases keyIs_shape hu with ⟨i,t,rfl,rfl⟩ | ⟨x,t,rfl,rfl⟩
    · rcases keyIs_shape hv with ⟨j,u,rfl,rfl⟩ | ⟨y,u,rfl,rfl⟩
      · rw [key_ll] at h; exact wpAny_eqBool_int h
      · rw [key_lr] at h; exact SeqAt.EqAt.int_str i t y u _ _ _ _ h
    · rcases keyIs_shape hv with ⟨j,u,rfl,rfl⟩ | ⟨y,u,rfl,rfl⟩
      · rw [key_rl] at h; exact SeqAt.EqAt.str_int x t j u _ _ _ _ h
      · rw [key_rr] at h; exact wpAny_eqBool_str h
  «strs»:=fun k x t v h=>by
    rcases keyIs_shape h with ⟨i,u,rfl,e⟩ | ⟨y,u,rfl,e⟩
    · exact nomatch e
    · injection e with e1 _
      subst e1
      cases v <;> rfl
end L2
namespace L2
open PySem PySem.Spec PyProof.Rows
inductive V where
  | non | bl (b:Bool) | int (i:Int) | str (x:Str) | byt (b:Array UInt8) | flt (b:UInt64) | ref (a:Addr) | ty (n:String)
  deriving DecidableEq
noncomputable def RelV:V → Value → Prop
  | .non,u=>u = Value.none
  | .bl b,u=>u = Value.bool b
  | .int i,u=>∃ t,u = Value.int i t
  | .str x,u=>∃ t,u = Value.str x t
  | .byt b,u=>∃ t,u = Value.bytes b t
  | .flt b,u=>∃ t,u = Value.float b t
  | .ref a,u=>u = Value.ref a
  | .ty n,u=>u = Value.type n
noncomputable abbrev Vals:List V → List Value → Prop:=Paired RelV
theorem Vals.length {xs:List V} {us:List Value} (r:Vals xs us):xs.length = us.length:=Paired.length r
theorem Vals.get:∀ {xs:List V} {us:List Value} {i:Nat} {x:V},Vals xs us → xs[i]? = some x → ∃ u,us[i]? = some u ∧ RelV x u
  | _,_,_,_,.nil,e=>by simp at e
  | _,_,0,_,.cons r _,e=>by simp at e; subst e; exact ⟨_,rfl,r⟩
  | _,_,i + 1,x,.cons _ t,e=>by
    refine L2.o_EA (Vals.get (i:=i) (x:=x) t (by simpa using e)) fun u h1 h2=>?_
    exact ⟨u,by simpa using h1,h2⟩
theorem Vals.set {x:V} {u:Value} (r:RelV x u):∀ {xs:List V} {us:List Value} (i:Nat),Vals xs us → Vals (xs.set i x) (us.set i u)
  | _,_,_,.nil=>.nil
  | _,_,0,.cons _ t=>.cons r t
  | _,_,i + 1,.cons q t=>.cons q (Vals.set r i t)
theorem Vals.append {xs ys:List V} {us ws:List Value} (h:Vals xs us) (s:Vals ys ws):Vals (xs ++ ys) (us ++ ws):=by
  induction h with
  | nil=>exact s
  | cons r t ih=>exact .cons r ih
theorem Vals.take:∀ {xs:List V} {us:List Value} (n:Nat),Vals xs us → Vals (xs.take n) (us.take n)
  | _,_,0,_=>.nil
  | _,_,_ + 1,.nil=>.nil
  | _,_,n + 1,.cons r t=>.cons r (Vals.take n t)
theorem Vals.drop:∀ {xs:List V} {us:List Value} (n:Nat),Vals xs us → Vals (xs.drop n) (us.drop n)
  | _,_,0,r=>r
  | _,_,_ + 1,.nil=>.nil
  | _,_,n + 1,.cons _ t=>Vals.drop n t
theorem Vals.none_of:∀ {xs:List V} {us:List Value} {i:Nat},Vals xs us → xs[i]? = none → us[i]? = none:=fun {xs us i} r e=>by
  have h1:=r.length
  have h2:xs.length ≤ i:=List.getElem?_eq_none_iff.mp e
  exact List.getElem?_eq_none_iff.mpr (by (clear e; omega))
noncomputable def RelO:Option V → Option Value → Prop
  | some v,some u=>RelV v u
  | none,none=>True
  | _,_=>False
noncomputable def KV {κ:Type}:List (κ × V) → List (κ × Value) → Prop:=Paired fun (p:κ × V) (q:κ × Value)=>p.1 = q.1 ∧ RelV p.2 q.2
noncomputable def kV:Key → V
  | .inl i=>.int i
  | .inr x=>.str x
inductive HO where
    | lst (xs:List V)
    | tup (xs:List V)
    | dK (kvs:List (Key × V)) | dT (kvs:List (List Key × V))
    | set (S:Int → Bool) (n:Nat)
    | ins (C dx:Addr) (fs:List (Str × V))
    | own (x:Addr)
    | xd (fs:List (Str × V))
    | met (f x:Addr)
    | rng (lo hi:Int)
    | frz (o:Obj) (u:HO)
    | tbl (ps:Array Value)
  | tab
    | ext (φ:Heap → Prop)
noncomputable abbrev Hp:=Addr → Option HO
noncomputable def upd (H:Hp) (a:Addr) (o:HO):Hp:=fun b=>if b = a then some o else H b
theorem upd_same {H:Hp} {a:Addr} {o:HO}:upd H a o a = some o:=by unfold upd; rw [if_pos rfl]
theorem upd_ne {H:Hp} {a b:Addr} {o:HO} (h:b ≠ a):upd H a o b = H b:=by unfold upd; rw [if_neg h]
theorem ne_of_none {H:Hp} {a b:Addr} {o:HO} (h:H a = some o) (h':H b = none):a ≠ b:=by
  intro e; subst e; rw [h] at h'; cases h'
section
variable (P:Program) (w:World)
noncomputable def ObjOk (H:Hp) (h:Heap) (a:Addr):HO → Prop
  | .lst xs=>xs.length ≤ sizeLine ∧ ∃ (its:List Value) (n:Nat),Vals xs its ∧ h.get? a = some { cls:=.type "list",data:=.seq its.toArray n }
  | .tup xs=>xs.length ≤ sizeLine ∧ ∃ its:List Value,Vals xs its ∧ IsTup h a its.toArray
  | .dK kvs=>kvs.length ≤ sizeLine ∧ (a == sysModules) = false ∧ ∃ vs,KV kvs vs ∧ h.DictOf (mixKind P w) a vs
  | .dT kvs=>kvs.length ≤ sizeLine ∧ (a == sysModules) = false ∧ ∃ xs:List (List Key × Addr × Value),
      Paired (fun (p:List Key × V) (q:List Key × Addr × Value)=>p.1 = q.1 ∧ H q.2.1 = some (.tup (p.1.map kV)) ∧ RelV p.2 q.2.2) kvs xs ∧
      ∃ o es ep,h.get? a = some o ∧ o.ExactDict ∧ o.data = .dict es ep ∧ es.toList = xs.map (entryOfKey (tupleKind (mixKind P w))) ∧ (xs.map (·.1)).Nodup
  | .set S n=>h.SetOf (intKind P w) a S n
  | .ins C dx fs=>H dx = some (.own a) ∧ fs.length ≤ 1000 ∧ dx ≠ a ∧ h.get? a = some (PySem.W.instObj C dx) ∧
      ∃ mA,h.Ns1 dx mA ∧ (∀ f,RelO (fs.lookup f) (mA f)) ∧ PySem.Within mA (fs.map (·.1))
  | .own _=>∃ o,h.get? a = some o
  | .xd fs=>∃ mA,h.Ns1 a mA ∧ ∀ f,RelO (fs.lookup f) (mA f)
  | .rng lo hi=>∃ t u v,h.get? a = some { cls:=.type "range",data:=.fields #[.int lo t,.int hi u,.int 1 v] }
  | .frz o u=>h.get? a = some o ∧ ObjOk H h a u
  | .tbl ps=>h.get? a = some { cls:=.none,data:=.fields ps }
  | .met f x=>h.get? a = some (PySem.W.methodObj (.ref f) (.ref x))
  | .tab=>∃ ps:Array Value,h.get? a = some (PySem.W.tabObj ps) ∧ TriplesOk ps.toList ∧ ∀ pos c,codeAmong pos ps.toList = some c → ∃ c' oc vs q t φ,c = Value.ref c' ∧ H c' = some (.frz oc φ) ∧ oc.data = .fields vs ∧ vs[1]? = some (Value.str q t)
  | .ext φ=>φ h ∧ (∃ o,h.get? a = some o) ∧ ∀ h1 h2:Heap,φ h1 → (∀ o,h1.get? a = some o → h2.get? a = some o) → φ h2
noncomputable def HOk (H:Hp) (h:Heap):Prop:=∀ a o,H a = some o → ObjOk P w H h a o
end
section
variable {P:Program} {w:World} {H H':Hp} {h h':Heap} {a:Addr} {o:HO}
theorem ObjOk.lt (x:ObjOk P w H h a o):a < h.objs.size:=by
  cases o with
  | lst xs=>obtain ⟨_,_,_,_,e⟩:=x; exact Heap.lt_size e
  | tup xs=>obtain ⟨_,_,_,p⟩:=x; exact p.lt
  | dK kvs=>obtain ⟨_,_,_,_,o,_,_,e,_⟩:=x; exact Heap.lt_size e
  | dT kvs=>obtain ⟨_,_,_,_,o,_,_,e,_⟩:=x; exact Heap.lt_size e
  | set S n=>obtain ⟨o,_,_,_,e,_⟩:=x; exact Heap.lt_size e
  | ins C dx fs=>obtain ⟨_,_,_,e,_⟩:=x; exact Heap.lt_size e
  | own y=>obtain ⟨_,e⟩:=x; exact Heap.lt_size e
  | xd fs=>obtain ⟨_,⟨_,_,_,e,_⟩,_⟩:=x; exact Heap.lt_size e
  | rng lo hi=>obtain ⟨_,_,_,e⟩:=x; exact Heap.lt_size e
  | frz ob u=>obtain ⟨e,_⟩:=x; exact Heap.lt_size e
  | tbl ps=>exact Heap.lt_size (show h.get? a = some _ from x)
  | met f y=>exact Heap.lt_size (show h.get? a = some _ from x)
  | tab=>obtain ⟨_,e,_⟩:=x; exact Heap.lt_size e
  | ext φ=>obtain ⟨_,⟨_,e⟩,_⟩:=x; exact Heap.lt_size e
theorem Paired.mapP {α β:Type} {F G:α → β → Prop} {l₁:List α} {l₂:List β} (h:Paired F l₁ l₂) (f:∀ a b,F a b → G a b):Paired G l₁ l₂:=by
  induction h with
  | nil=>exact .nil
  | cons r t ih=>exact .cons (f _ _ r) ih
theorem ObjOk.stay (x:ObjOk P w H h a o) (k:∀ b u,(b = a ∨ H b = some (.own a)) → h.get? b = some u → h'.get? b = some u)
    (ho:∀ b,H b = some (.own a) → H' b = some (.own a)) (ht:∀ b xs,H b = some (.tup xs) → H' b = some (.tup xs)) (hz:∀ b o u vs,o.data = .fields vs → H b = some (.frz o u) → H' b = some (.frz o u):=by exact fun _ _ _ _ _ q=>q):ObjOk P w H' h' a o:=by
  induction o with
  | lst xs=>obtain ⟨z,its,n,r,e⟩:=x; exact ⟨z,its,n,r,k _ _ (.inl rfl) e⟩
  | tup xs=>obtain ⟨z,its,r,ob,e,c⟩:=x; exact ⟨z,its,r,ob,k _ _ (.inl rfl) e,c⟩
  | dK kvs=>obtain ⟨z,y,vs,r,ob,es,ep,e,c⟩:=x; exact ⟨z,y,vs,r,ob,es,ep,k _ _ (.inl rfl) e,c⟩
  | dT kvs=>
    refine L2.o_AAEAEEEA (x) fun z y xs r ob es ep e c=>?_
    exact L2.i_AAEAEEEA (z) (y) (xs) (Paired.mapP r fun p q z=>⟨z.1,ht _ _ z.2.1,z.2.2⟩) (ob) (es) (ep) (k _ _ (.inl rfl) e) (c)
  | set S n=>obtain ⟨ob,es,ep,t,e,c⟩:=x; exact ⟨ob,es,ep,t,k _ _ (.inl rfl) e,c⟩
  | ins C dx fs=>
    obtain ⟨d,z,ne,e,mA,⟨od,es,ep,e2,c⟩,r⟩:=x
    exact ⟨ho _ d,z,ne,k _ _ (.inl rfl) e,mA,⟨od,es,ep,k _ _ (.inr d) e2,c⟩,r⟩
  | own y=>obtain ⟨ob,e⟩:=x; exact ⟨ob,k _ _ (.inl rfl) e⟩
  | xd fs=>obtain ⟨mA,⟨od,es,ep,e,c⟩,r⟩:=x; exact ⟨mA,⟨od,es,ep,k _ _ (.inl rfl) e,c⟩,r⟩
  | rng lo hi=>obtain ⟨t,u,v,e⟩:=x; exact ⟨t,u,v,k _ _ (.inl rfl) e⟩
  | frz ob u ih=>obtain ⟨e,q⟩:=x; exact ⟨k _ _ (.inl rfl) e,ih q⟩
  | tbl ps=>
    have e:h.get? a = some { cls:=.none,data:=.fields ps }:=x
    show h'.get? a = some { cls:=.none,data:=.fields ps }
    exact k a _ (.inl rfl) e
  | met f y=>
    have e:h.get? a = some (PySem.W.methodObj (.ref f) (.ref y)):=x
    show h'.get? a = some (PySem.W.methodObj (.ref f) (.ref y))
    exact k a _ (.inl rfl) e
  | ext φ=>obtain ⟨p,⟨o,e⟩,st⟩:=x; exact ⟨st _ _ p fun o q=>k _ _ (.inl rfl) q,⟨o,k _ _ (.inl rfl) e⟩,st⟩
  | tab=>
    refine L2.o_EAA (x) fun ps e tr co=>?_
    exact ⟨ps,k _ _ (.inl rfl) e,tr,fun pos c z=>let ⟨c',oc,vs,q,t,φ,h1,h2,h3,h4⟩:=co pos c z; ⟨c',oc,vs,q,t,φ,h1,hz _ _ _ _ h3 h2,h3,h4⟩⟩
theorem HOk.lt (x:HOk P w H h) (e:H a = some o):a < h.objs.size:=(x a o e).lt
theorem HOk.fresh (x:HOk P w H h) (e:h.objs.size ≤ a):H a = none:=by
  cases q:H a with
  | none=>rfl
  | some u=>exact absurd (Nat.lt_of_lt_of_le (x.lt q) e) (Nat.lt_irrefl _)
theorem HOk.kept (x:HOk P w H h) (k:∀ b u,h.get? b = some u → h'.get? b = some u):HOk P w H h':=fun a o e=>
  (x a o e).stay (fun b u _ q=>k b u q) (fun _ q=>q) fun _ _ q=>q
theorem HOk.laid (x:HOk P w H h) (k:∀ b u,h.get? b = some u → h'.get? b = some u) (hp:h.objs.size ≤ a) (new:ObjOk P w (upd H a o) h' a o):HOk P w (upd H a o) h':=fun b u e=>by
  have hn:=x.fresh hp
  by_cases hb:b = a
  · subst hb; rw [upd_same] at e; cases e; exact new
  · rw [upd_ne hb] at e
    exact (x b u e).stay (fun c v _ q=>k c v q) (fun c q=>by rw [upd_ne (ne_of_none q hn)]; exact q) (fun c xs q=>by rw [upd_ne (ne_of_none q hn)]; exact q) fun c ob xs _ _ q=>by rw [upd_ne (ne_of_none q hn)]; exact q
end
noncomputable def Rd (H:Hp) (a:Addr) (u:HO):Prop:=H a = some u ∨ ∃ o,H a = some (.frz o u)
theorem Rd.of {H:Hp} {a:Addr} {u:HO} (h:H a = some u):Rd H a u:=.inl h
theorem Rd.ok {P:Program} {w:World} {H:Hp} {h:Heap} {a:Addr} {u:HO} (r:Rd H a u) (x:HOk P w H h):ObjOk P w H h a u:=by
  rcases r with r | ⟨o,r⟩
  · exact x a u r
  · refine L2.o_A (x a _ r) fun _ q=>?_
    exact q
noncomputable def Mut:Option HO → Prop
  | some (.lst _)=>True
  | some (.dK _)=>True
  | some (.dT _)=>True
  | some (.set _ _)=>True
  | some (.ins _ _ _)=>True
  | some (.ext _)=>True
  | _=>False
section
variable {P:Program} {w:World} {H:Hp} {h h':Heap} {x e:Addr} {o':HO}
theorem HOk.write (ok:HOk P w H h) (mu:Mut (H x)) (he:e = x ∨ H e = some (.own x)) (k:∀ b u,b ≠ e → h.get? b = some u → h'.get? b = some u) (heo:∃ u,h'.get? e = some u)
    (new:ObjOk P w (upd H x o') h' x o'):HOk P w (upd H x o') h':=fun b u q=>by
  have nown:∀ c y,H c = some (.own y) → c ≠ x:=fun c y r z=>by subst z; rw [r] at mu; exact mu
  have ntup:∀ c xs,H c = some (.tup xs) → c ≠ x:=fun c xs r z=>by subst z; rw [r] at mu; exact mu
  have nfrz:∀ c ob xs,H c = some (.frz ob xs) → c ≠ x:=fun c ob xs r z=>by subst z; rw [r] at mu; exact mu
  by_cases hb:b = x
  · subst hb; rw [upd_same] at q; cases q; exact new
  · rw [upd_ne hb] at q
    by_cases hbe:b = e
    · have q':H b = some (.own x):=by
        rcases he with z | z
        · exact absurd (hbe.trans z) hb
        · rw [hbe]; exact z
      rw [q] at q'; cases q'
      refine L2.o_E (heo) fun v hv=>?_
      exact ⟨v,by rw [hbe]; exact hv⟩
    · refine (ok b u q).stay (fun c v hc r=>k c v ?_ r) (fun c r=>by rw [upd_ne (nown c b r)]; exact r) (fun c xs r=>by rw [upd_ne (ntup c xs r)]; exact r) fun c ob xs _ _ r=>by rw [upd_ne (nfrz c ob xs r)]; exact r
      rcases hc with rfl | hc
      · exact hbe
      · rintro rfl
        rcases he with z | z
        · exact nown c b hc z
        · rw [hc] at z; cases z; exact hb rfl
end
structure Un (fs ex:List Addr) (H H':Hp) (h h':Heap):Prop where
  keep:∀ b o,h.get? b = some o → H b = none → b ∉ fs → b ∉ ex → h'.get? b = some o
  slot:∀ b o,h.get? b = some o → H b = none → b ∈ fs → b ∉ ex → ∃ sl,h'.get? b = some { o with slots:=sl }
  free:∀ b o,h.get? b = some o → H b = none → b ∉ ex → H' b = none
  there:∀ b o,h.get? b = some o → b ∉ ex → ∃ o',h'.get? b = some o'
  tups:∀ b xs,H b = some (.tup xs) → H' b = some (.tup xs)
  frzs:∀ b o u,H b = some (.frz o u) → H' b = some (.frz o u)
  tbls:∀ b ps,H b = some (.tbl ps) → ∃ more,H' b = some (.tbl (ps ++ more))
  tabs:∀ b,H b = some .tab → H' b = some .tab
section
variable {fs fs' ex ex':List Addr} {H H1 H2:Hp} {h h1 h2 h':Heap} {a x e:Addr} {o:HO}
theorem Un.any (u:Un fs ex H H1 h h1) {b:Addr} {ob:Obj} (q:h.get? b = some ob) (n:H b = none) (hx:b ∉ ex):∃ sl,h1.get? b = some { ob with slots:=sl }:=by
  by_cases hb:b ∈ fs
  · exact u.slot b ob q n hb hx
  · exact ⟨ob.slots,u.keep b ob q n hb hx⟩
theorem Un.trans (a:Un fs ex H H1 h h1) (b:Un fs ex H1 H2 h1 h2):Un fs ex H H2 h h2 where
  keep:=fun c ob q n hc hx=>b.keep c ob (a.keep c ob q n hc hx) (a.free c ob q n hx) hc hx
  slot:=fun c ob q n hc hx=>by
    refine L2.o_E (a.slot c ob q n hc hx) fun sl e1=>?_
    refine L2.o_E (b.slot c _ e1 (a.free c ob q n hx) hc hx) fun sl' e2=>?_
    exact ⟨sl',e2⟩
  free:=fun c ob q n hx=>by
    refine L2.o_E (a.there c ob q hx) fun o' e1=>?_
    exact b.free c o' e1 (a.free c ob q n hx) hx
  there:=fun c ob q hx=>by
    refine L2.o_E (a.there c ob q hx) fun o' e1=>?_
    exact b.there c o' e1 hx
  tups:=fun c xs q=>b.tups c xs (a.tups c xs q)
  frzs:=fun c ob xs q=>b.frzs c ob xs (a.frzs c ob xs q)
  tabs:=fun c q=>b.tabs c (a.tabs c q)
  tbls:=fun c ps q=>by
    refine L2.o_E (a.tbls c ps q) fun m1 e1=>?_
    refine L2.o_E (b.tbls c _ e1) fun m2 e2=>?_
    exact ⟨m1 ++ m2,by rw [e2,Array.append_assoc]⟩
theorem Un.kept (k:∀ b u,h.get? b = some u → h'.get? b = some u):Un fs ex H H h h':=
  ⟨fun b ob q _ _ _=>k b ob q,fun b ob q _ _ _=>⟨ob.slots,k b ob q⟩,fun _ _ _ n _=>n,fun b ob q _=>⟨ob,k b ob q⟩,fun _ _ q=>q,fun _ _ _ q=>q,fun _ ps q=>⟨#[],by rw [q]; simp⟩,fun _ q=>q⟩
theorem Un.refl:Un fs ex H H h h:=Un.kept fun _ _ q=>q
theorem Un.laid (k:∀ b u,h.get? b = some u → h'.get? b = some u) (hp:h.objs.size ≤ a) (hn:H a = none):Un fs ex H (upd H a o) h h' where
  keep:=fun b u q _ _ _=>k b u q
  slot:=fun b u q _ _ _=>⟨u.slots,k b u q⟩
  free:=fun b u q n _=>by rw [upd_ne (Nat.ne_of_lt (Nat.lt_of_lt_of_le (Heap.lt_size q) hp))]; exact n
  there:=fun b u q _=>⟨u,k b u q⟩
  tups:=fun b xs q=>by rw [upd_ne (ne_of_none q hn)]; exact q
  frzs:=fun b u xs q=>by rw [upd_ne (ne_of_none q hn)]; exact q
  tbls:=fun b ps q=>⟨#[],by rw [upd_ne (ne_of_none q hn),q]; simp⟩
  tabs:=fun b q=>by rw [upd_ne (ne_of_none q hn)]; exact q
theorem Un.write (mu:Mut (H x)) (he:e = x ∨ H e = some (.own x)) (k:∀ b u,b ≠ e → h.get? b = some u → h'.get? b = some u) (heo:∃ u,h'.get? e = some u):Un fs ex H (upd H x o) h h':=by
  have hx:∀ b,H b = none → b ≠ x:=fun b n z=>by subst z; rw [n] at mu; exact mu
  have hb:∀ b,H b = none → b ≠ e:=fun b n z=>by
    subst z
    rcases he with r | r
    · exact hx b n r
    · rw [n] at r; cases r
  have hm:∀ b u,H b = some u → ¬ Mut (some u) → b ≠ x:=fun b u q nm z=>by subst z; rw [q] at mu; exact nm mu
  refine ⟨fun b u q n _ _=>k b u (hb b n) q,fun b u q n _ _=>⟨u.slots,k b u (hb b n) q⟩,fun b u q n _=>by rw [upd_ne (hx b n)]; exact n,fun b u q _=>?_,
    fun b xs q=>by rw [upd_ne (hm b _ q fun z=>z)]; exact q,fun b u xs q=>by rw [upd_ne (hm b _ q fun z=>z)]; exact q,fun b ps q=>⟨#[],by rw [upd_ne (hm b _ q fun z=>z),q]; simp⟩,fun b q=>by rw [upd_ne (hm b _ q fun z=>z)]; exact q⟩
  by_cases hbe:b = e
  · subst hbe; exact heo
  · exact ⟨u,k b u hbe q⟩
theorem Un.mono (u:Un fs ex H H1 h h1) (hs:∀ b ∈ fs,b ∈ fs') (hx:∀ b ∈ ex,b ∈ ex'):Un fs' ex' H H1 h h1:=
  ⟨fun b ob q n hb he=>u.keep b ob q n (fun z=>hb (hs b z)) fun z=>he (hx b z),fun _ _ q n _ he=>u.any q n fun z=>he (hx _ z),fun b ob q n he=>u.free b ob q n fun z=>he (hx b z),fun b ob q he=>u.there b ob q fun z=>he (hx b z),u.tups,u.frzs,u.tbls,u.tabs⟩
end
noncomputable def trk (h:Heap) (H:Hp):List Addr:=(List.range h.objs.size).filter fun a=>(H a).isSome
noncomputable def hidT (h:Heap) (H:Hp):Heap:=PySem.W.hideAll h (trk h H)
theorem hidT_size (h:Heap) (H:Hp):(hidT h H).objs.size = h.objs.size:=PySem.W.hideAll_size _ _
theorem hidT_get {h:Heap} {H:Hp} {b:Addr} {o:Obj} (e:h.get? b = some o) (n:H b = none):(hidT h H).get? b = some o:=
  PySem.W.hideAll_get _ e fun hm=>by
    have q:(H b).isSome = true:=(List.mem_filter.mp hm).2
    rw [n] at q; simp at q
theorem of_hidT {h:Heap} {H:Hp} {b:Addr} {o:Obj} (e:(hidT h H).get? b = some o):h.get? b = some o ∧ H b = none:=by
  have e':h.get? b = some o:=PySem.W.of_hideAll (trk h H) e
  refine ⟨e',?_⟩
  cases q:H b with
  | none=>rfl
  | some x=>
    have hm:b ∈ trk h H:=List.mem_filter.mpr ⟨List.mem_range.mpr (Heap.lt_size e'),by simp [q]⟩
    have z:(hidT h H).get? b = none:=PySem.W.hideAll_none (trk h H) hm
    rw [z] at e; cases e
noncomputable def allNews (g h:Heap) (L:Addr):List (Addr × Obj):=(List.range h.objs.size).filterMap fun a=>if a = L ∨ (g.get? a).isSome = true then none else (h.get? a).map fun o=>(a,o)
noncomputable def rest (g h:Heap) (L d:Addr):List (Addr × Obj):=(allNews g h L).filter fun p=>decide (p.1 ≠ d)
end L2
namespace L2
open PySem PySem.Spec PyProof.Rows
structure Mod (K:PySem.W.Frag) (mg:Str → Option Value) (base:Heap):Prop where
  kin:K.In base
  glob:base.Ns mainGlobals mg
  blt:∃ mb,base.Ns builtinsNs mb ∧ ∀ x:Str,x ≠ "__name__" → mb x = bootBuiltins x
  nolimit:base.NoLimit
noncomputable def lamNames (P:Program):List Str:=((recsOf P).filter fun d=>(freeInTheComprehensionsStmts d.body).isNone).map (·.name)
noncomputable def TabsOk (P:Program) (K:PySem.W.Frag) (mg:Str → Option Value) (base:Heap) (H:Hp):Prop:=∀ x c p,x ∈ lamNames P → PySem.W.tabIn K x = some (c,p) → H p = some .tab ∧ PySem.W.CodeHd base c p ∧ base.BuiltinsAt mg p
structure Cx where
  prog:Program
  w:World
  K:PySem.W.Frag
  mg:Str → Option Value
  base:Heap
  A:Around
  N:List Str
  s₀:Shared
  H₀:Hp
  env:Env
  outer:List Env
  stack:List Env
  ex:List Addr
  fn:Str → Bool
  calm:Bool
  pn:List (Addr × Obj)
  xe:Value → Shared → Prop
noncomputable def frs (l:List Env):List Addr:=l.filterMap (·.frame)
noncomputable abbrev Cx.fs (X:Cx):List Addr:=frs X.outer
noncomputable def Vis (sc:Scope) (x:Str):Prop:=sc.names.lookup x = some .local ∨ sc.names.lookup x = some .cell ∨ sc.names.lookup x = some .free
noncomputable def Loc (sc:Scope) (x:Str):Prop:=sc.names.lookup x = some .local ∨ sc.names.lookup x = some .cell
noncomputable def Look (env:Env) (h:Heap) (m:Str → Option Value) (x:Str) (u:Value):Prop:=
  (env.kindOf x = some .local ∧ m x = some u) ∨ ((env.kindOf x = some .cell ∨ env.kindOf x = some .free) ∧ ∃ c,env.cells.lookup x = some c ∧ h.IsCell c (some u))
structure Cx.Ok (X:Cx):Prop where
  mod:Mod X.K X.mg X.base
  kind:X.env.scope.kind = .function
  glob:X.env.globals = mainGlobals
  blt:X.env.builtins = builtinsNs
  above:X.s₀.heap.objs.size ≤ X.env.locals
  inj:∀ x y c,X.env.cells.lookup x = some c → X.env.cells.lookup y = some c → x = y
  has:∀ x,(X.env.kindOf x = some .cell ∨ X.env.kindOf x = some .free) → ∃ c,X.env.cells.lookup x = some c
  cab:∀ x c,X.fn x = true → X.env.cells.lookup x = some c → X.s₀.heap.objs.size ≤ c
  hd:X.calm = true → X.A.handled = none
  frames:X.A.frames = some X.stack
  stk:X.stack = X.outer ∨ (X.stack = X.env :: X.outer ∧ X.env.frame = some X.env.locals)
  exf:∀ b ∈ X.ex,b ≠ X.env.locals ∧ ∀ x c,X.env.cells.lookup x = some c → c ≠ b
  bs:∀ b o,X.base.get? b = some o → X.s₀.heap.get? b = some o ∧ X.H₀ b = none
  bsz:X.base.objs.size ≤ X.s₀.heap.objs.size
  noex:∀ b o,X.base.get? b = some o → b ∉ X.ex
  exfs:∀ b ∈ X.ex,b ∉ X.fs
  funs:X.s₀.heap.FunFrames X.base X.outer
  frf:∀ b ∈ X.fs,X.H₀ b = none
  tabs:TabsOk X.prog X.K X.mg X.base X.H₀
structure Inv (X:Cx) (pins:List (Addr × Obj)) (σ:List (Option V)) (H:Hp) (s:Shared):Prop where
  ok:X.Ok
  os:s.os = X.s₀.os
  bare:AllBare s.gens
  base:Un X.fs X.ex X.H₀ H X.s₀.heap s.heap
  loc:∃ m,s.heap.Ns X.env.locals m ∧ ∀ (i:Nat) (x:Str) (v:V),X.N[i]? = some x → σ[i]? = some (some v) → Vis X.env.scope x → ∃ u,RelV v u ∧ Look X.env s.heap m x u
  cell:∀ x c,X.env.cells.lookup x = some c → ∃ v,s.heap.IsCell c v
  free:H X.env.locals = none
  freeC:∀ x c,X.env.cells.lookup x = some c → H c = none ∨ (X.fn x = false ∧ ∃ o u,H c = some (.frz o u))
  pin:∀ p ∈ X.pn ++ pins,s.heap.get? p.1 = some p.2 ∧ H p.1 = none ∧ p.1 ≠ X.env.locals ∧ p.1 ∉ X.fs ∧ ∀ v,p.2.data ≠ .cell v
  hok:HOk X.prog X.w H s.heap
  len:σ.length = X.N.length
section
variable {X:Cx} {pins:List (Addr × Obj)} {σ:List (Option V)} {H H':Hp} {s:Shared} {h':Heap}
theorem Cx.Ok.nofr (ok:X.Ok) {b:Addr} {o:Obj} (e:X.base.get? b = some o):b ∉ X.fs:=fun hb=>by
  have:=(ok.funs.mem hb).1
  rw [e] at this; cases this
theorem Inv.bs (I:Inv X pins σ H s):∀ b o,X.base.get? b = some o → s.heap.get? b = some o ∧ H b = none:=fun b o e=>
  ⟨I.base.keep b o (I.ok.bs b o e).1 (I.ok.bs b o e).2 (I.ok.nofr e) (I.ok.noex b o e),I.base.free b o (I.ok.bs b o e).1 (I.ok.bs b o e).2 (I.ok.noex b o e)⟩
theorem Inv.bk (I:Inv X pins σ H s):∀ b o,X.base.get? b = some o → s.heap.get? b = some o:=fun b o e=>(I.bs b o e).1
theorem Inv.mod (I:Inv X pins σ H s):Mod X.K X.mg X.base:=I.ok.mod
theorem Inv.kIn (I:Inv X pins σ H s):X.K.In s.heap:=I.ok.mod.kin.keeps I.bk
theorem Inv.nolimit (I:Inv X pins σ H s):s.heap.NoLimit:=I.ok.mod.nolimit.keeps I.bk
theorem Inv.fr (I:Inv X pins σ H s):∃ m,Fr X.base X.env.locals s.heap m:=
  let ⟨m,hn,_⟩:=I.loc
  ⟨m,hn,I.bk,Nat.le_trans I.ok.bsz I.ok.above⟩
theorem Inv.lt (I:Inv X pins σ H s):X.env.locals < s.heap.objs.size:=let ⟨_,hn,_⟩:=I.loc; hn.lt
theorem Inv.sz (I:Inv X pins σ H s):X.s₀.heap.objs.size ≤ s.heap.objs.size:=Nat.le_trans I.ok.above (Nat.le_of_lt I.lt)
theorem Inv.nofs (I:Inv X pins σ H s) {a:Addr} (h:s.heap.objs.size ≤ a):a ∉ X.fs:=fun hb=>by
  refine L2.o_AEA (I.ok.funs.mem hb) fun _ o ho _=>?_
  exact absurd (Nat.lt_of_lt_of_le (Heap.lt_size ho) (Nat.le_trans I.sz h)) (Nat.lt_irrefl _)
theorem Inv.cne (I:Inv X pins σ H s):∀ x c,X.env.cells.lookup x = some c → c ≠ X.env.locals:=fun x c e z=>by
  refine L2.o_EEA (I.cell x c e) fun v o ho hd=>?_
  obtain ⟨m,⟨o',es,ep,ho',hd',_⟩,_⟩:=I.loc
  rw [z,ho'] at ho; cases ho; rw [hd'] at hd; cases hd
theorem Inv.funs (I:Inv X pins σ H s):s.heap.FunFrames X.base X.outer:=by
  have all:∀ (l:List Env),(∀ b ∈ frs l,b ∈ X.fs) → X.s₀.heap.FunFrames X.base l → s.heap.FunFrames X.base l:=by
    intro l
    induction l with
    | nil=>intro _ _; trivial
    | cons env r ih=>
      intro hs hl
      obtain ⟨hk,⟨L,o,hf,hn,ho,hd⟩,hr⟩:=hl
      have hL:L ∈ X.fs:=hs L (by unfold frs; rw [List.filterMap_cons,hf]; exact List.mem_cons_self)
      refine L2.o_E (I.base.slot L o ho (I.ok.frf L hL) hL fun z=>I.ok.exfs L z hL) fun sl e=>?_
      exact ⟨hk,⟨L,_,hf,hn,e,hd⟩,ih (fun b hb=>hs b (by unfold frs; rw [List.filterMap_cons,hf]; exact List.mem_cons_of_mem _ hb)) hr⟩
  exact all X.outer (fun _ hb=>hb) I.ok.funs
theorem Inv.stack (I:Inv X pins σ H s):s.heap.FunFrames X.base X.stack:=by
  rcases I.ok.stk with e | ⟨e,hf⟩
  · rw [e]; exact I.funs
  · rw [e]
    refine L2.o_EA (I.loc) fun m hn _=>?_
    refine .cons (by rw [I.ok.kind]; decide) hf hn ?_ I.funs
    exact Heap.get?_none_of_le (Nat.le_trans I.ok.bsz I.ok.above)
theorem Inv.stkSub (I:Inv X pins σ H s):∀ b ∈ frs X.stack,b ∈ X.env.locals :: X.fs:=fun b hb=>by
  rcases I.ok.stk with e | ⟨e,hf⟩
  · rw [e] at hb; exact List.mem_cons_of_mem _ hb
  · rw [e] at hb
    unfold frs at hb
    rw [List.filterMap_cons,hf] at hb
    exact hb
theorem Inv.stkFree (I:Inv X pins σ H s):∀ b ∈ frs X.stack,H b = none:=fun b hb=>by
  rcases List.mem_cons.mp (I.stkSub b hb) with e | hb
  · rw [e]; exact I.free
  · refine L2.o_AEA (I.ok.funs.mem hb) fun _ o ho _=>?_
    exact I.base.free b o ho (I.ok.frf b hb) fun z=>I.ok.exfs b z hb
theorem Inv.step {g':Array GenState} {t':Nat} {d':Drawn} {ch:List Addr} (I:Inv X pins σ H s)
    (hch:∀ b ∈ ch,(b ∈ X.ex ∨ X.s₀.heap.objs.size ≤ b) ∧ b ≠ X.env.locals ∧ (∀ x c,X.env.cells.lookup x = some c → c ≠ b) ∧ ∀ p ∈ X.pn ++ pins,p.1 ≠ b)
    (keep:∀ b o,b ≠ X.env.locals → b ∉ X.fs → b ∉ ch → s.heap.get? b = some o → H b = none → h'.get? b = some o)
    (slot:∀ b o,b ≠ X.env.locals → b ∈ X.fs → b ∉ ch → s.heap.get? b = some o → H b = none → ∃ sl,h'.get? b = some { o with slots:=sl }) (free:∀ b o,b ∉ ch → s.heap.get? b = some o → H b = none → H' b = none)
    (there:∀ b o,b ∉ ch → s.heap.get? b = some o → ∃ o',h'.get? b = some o')
    (tups:∀ b xs,H b = some (.tup xs) → H' b = some (.tup xs)) (frzs:∀ b o u,H b = some (.frz o u) → H' b = some (.frz o u)) (tbls:∀ b ps,H b = some (.tbl ps) → ∃ more,H' b = some (.tbl (ps ++ more))) (tabs:∀ b,H b = some .tab → H' b = some .tab)
    (ns:∀ m,s.heap.Ns X.env.locals m → h'.Ns X.env.locals m) (hok:HOk X.prog X.w H' h') (hg:AllBare g') :
    Inv X pins σ H' { s with heap:=h',gens:=g',drawn:=d',toks:=t' }:=by
  have neL:∀ b o,X.s₀.heap.get? b = some o → b ≠ X.env.locals:=fun b o e=>Nat.ne_of_lt (Nat.lt_of_lt_of_le (Heap.lt_size e) I.ok.above)
  have neC:∀ b o,X.s₀.heap.get? b = some o → b ∉ X.ex → b ∉ ch:=fun b o e hx hb=>by
    rcases (hch b hb).1 with z | z
    · exact hx z
    · exact absurd (Nat.lt_of_lt_of_le (Heap.lt_size e) z) (Nat.lt_irrefl _)
  have cellK:∀ x c,X.env.cells.lookup x = some c → ∀ v,s.heap.IsCell c v → h'.IsCell c v:=fun x c e v zpat=>by
    refine L2.o_EA (zpat) fun o ho hd=>?_
    have nch:c ∉ ch:=fun z=>(hch c z).2.2.1 x c e rfl
    rcases I.freeC x c e with fc | ⟨_,ob,ub,fc⟩
    · by_cases hc:c ∈ X.fs
      · refine L2.o_E (slot c o (I.cne x c e) hc nch ho fc) fun sl q=>?_
        exact ⟨_,q,hd⟩
      · exact ⟨o,keep c o (I.cne x c e) hc nch ho fc,hd⟩
    · have q1:=(I.hok c _ fc).1
      have q2:=(hok c _ (frzs c ob ub fc)).1
      rw [ho] at q1
      obtain rfl:=Option.some.inj q1
      exact ⟨o,q2,hd⟩
  refine ⟨I.ok,I.os,hg,⟨fun b o e n hb hx=>?_,fun b o e n hb hx=>?_,fun b o e n hx=>?_,fun b o e hx=>?_,fun b xs e=>tups b xs (I.base.tups b xs e),fun b o xs e=>frzs b o xs (I.base.frzs b o xs e),fun b ps e=>?_,fun b e=>tabs b (I.base.tabs b e)⟩,?_,fun x c e=>?_,?_,fun x c e=>?_,fun p hp=>?_,hok,I.len⟩
  · exact keep b o (neL b o e) hb (neC b o e hx) (I.base.keep b o e n hb hx) (I.base.free b o e n hx)
  · refine L2.o_E (I.base.slot b o e n hb hx) fun sl e1=>?_
    refine L2.o_E (slot b _ (neL b o e) hb (neC b o e hx) e1 (I.base.free b o e n hx)) fun sl' e2=>?_
    exact ⟨sl',e2⟩
  · refine L2.o_E (I.base.there b o e hx) fun o' e1=>?_
    exact free b o' (neC b o e hx) e1 (I.base.free b o e n hx)
  · refine L2.o_E (I.base.there b o e hx) fun o' e1=>?_
    exact there b o' (neC b o e hx) e1
  · refine L2.o_E (I.base.tbls b ps e) fun m1 e1=>?_
    refine L2.o_E (tbls b _ e1) fun m2 e2=>?_
    exact ⟨m1 ++ m2,by rw [e2,Array.append_assoc]⟩
  · refine L2.o_EA (I.loc) fun m hn hl=>?_
    refine ⟨m,ns m hn,fun i x v e1 e2 e3=>?_⟩
    refine L2.o_EA (hl i x v e1 e2 e3) fun u r l=>?_
    refine ⟨u,r,?_⟩
    rcases l with l | ⟨k,c,e,z⟩
    · exact .inl l
    · exact .inr ⟨k,c,e,cellK x c e _ z⟩
  · refine L2.o_E (I.cell x c e) fun v z=>?_
    exact ⟨v,cellK x c e v z⟩
  · obtain ⟨m,⟨o,_,_,ho,_⟩,_⟩:=I.loc
    exact free _ o (fun z=>(hch _ z).2.1 rfl) ho I.free
  · refine L2.o_EEA (I.cell x c e) fun v o ho hd=>?_
    rcases I.freeC x c e with fc | ⟨hfn,ob,ub,fc⟩
    · exact .inl (free c o (fun z=>(hch c z).2.2.1 x c e rfl) ho fc)
    · exact .inr ⟨hfn,ob,ub,frzs c ob ub fc⟩
  · refine L2.o_AAAA (I.pin p hp) fun e n ne nf d=>?_
    have nch:p.1 ∉ ch:=fun z=>(hch p.1 z).2.2.2 p hp rfl
    exact ⟨keep p.1 p.2 ne nf nch e n,free p.1 p.2 nch e n,ne,nf,d⟩
theorem Inv.un {t':Nat} (I:Inv X pins σ H s) (u:Un X.fs [] H H' s.heap h') (hok:HOk X.prog X.w H' h'):Inv X pins σ H' { s with heap:=h',toks:=t' }:=by
  obtain ⟨m,⟨o,es,ep,ho,r⟩,_⟩:=id I.loc
  refine L2.o_E (u.any ho I.free (by simp)) fun sl hL=>?_
  exact I.step (g':=s.gens) (d':=s.drawn) (ch:=[]) (fun _ z=>nomatch z) (fun b o _ hb _ e n=>u.keep b o e n hb (by simp)) (fun b o _ hb _ e n=>u.slot b o e n hb (by simp)) (fun b o _ e n=>u.free b o e n (by simp)) (fun b o _ e=>u.there b o e (by simp)) u.tups u.frzs u.tbls u.tabs (fun m' hm=>by
    refine L2.o_EEEA (hm) fun o' es' ep' ho' r'=>?_
    rw [ho] at ho'; cases ho'
    exact ⟨_,es',ep',hL,r'⟩) hok I.bare
theorem Inv.call {g':Array GenState} {t':Nat} {d':Drawn} {ch:List Addr} (I:Inv X pins σ H s) (u:Un (frs X.stack) ch H H' s.heap h') (hok:HOk X.prog X.w H' h') (hg:AllBare g')
    (hch:∀ b ∈ ch,(b ∈ X.ex ∨ X.s₀.heap.objs.size ≤ b) ∧ b ≠ X.env.locals ∧ (∀ x c,X.env.cells.lookup x = some c → c ≠ b) ∧ ∀ p ∈ X.pn ++ pins,p.1 ≠ b) :
    Inv X pins σ H' { s with heap:=h',gens:=g',drawn:=d',toks:=t' }:=by
  obtain ⟨m,⟨o,es,ep,ho,r⟩,_⟩:=id I.loc
  refine L2.o_E (u.any ho I.free fun z=>(hch _ z).2.1 rfl) fun sl hL=>?_
  exact I.step (ch:=ch) hch (fun b o hL hb hc e n=>u.keep b o e n (fun z=>(List.mem_cons.mp (I.stkSub b z)).elim hL hb) hc) (fun b o _ _ hc e n=>u.any e n hc) (fun b o hc e n=>u.free b o e n hc) (fun b o hc e=>u.there b o e hc) u.tups u.frzs u.tbls u.tabs (fun m' hm=>by
    refine L2.o_EEEA (hm) fun o' es' ep' ho' r'=>?_
    rw [ho] at ho'; cases ho'
    exact ⟨_,es',ep',hL,r'⟩) hok hg
theorem Inv.turned {t':Nat} {it:Addr} (I:Inv X pins σ H s) (k:∀ b o,b ≠ it → s.heap.get? b = some o → h'.get? b = some o) (hn:H it = none) (hL:it ≠ X.env.locals)
    (h1:it ∈ X.ex ∨ X.s₀.heap.objs.size ≤ it) (h2:∀ x c,X.env.cells.lookup x = some c → c ≠ it) (h3:∀ p ∈ X.pn ++ pins,p.1 ≠ it):Inv X pins σ H { s with heap:=h',toks:=t' }:=by
  have nit:∀ b u,H b = some u → b ≠ it:=fun b u e z=>by rw [z,hn] at e; cases e
  refine I.step (g':=s.gens) (d':=s.drawn) (ch:=[it]) (fun b hb=>?_) (fun b o _ _ hc e _=>k b o (fun z=>hc (by simp [z])) e) (fun b o _ _ hc e _=>⟨o.slots,k b o (fun z=>hc (by simp [z])) e⟩) (fun _ _ _ _ n=>n)
    (fun b o hc e=>⟨o,k b o (fun z=>hc (by simp [z])) e⟩) (fun _ _ e=>e) (fun _ _ _ e=>e) (fun b ps e=>⟨#[],by rw [e]; simp⟩) (fun _ e=>e) (fun m hm=>?_) (fun b u e=>?_) I.bare
  · have e:b = it:=by simpa using hb
    subst e
    exact ⟨h1,hL,h2,h3⟩
  · refine L2.o_EEEA (hm) fun o es ep ho r=>?_
    exact L2.i_EEEA (o) (es) (ep) (k _ o (Ne.symm hL) ho) (r)
  · refine (I.hok b u e).stay (fun c v hc q=>k c v ?_ q) (fun _ q=>q) fun _ _ q=>q
    rcases hc with z | z
    · rw [z]; exact nit b u e
    · exact nit c _ z
theorem Inv.tok (I:Inv X pins σ H s) (t:Nat):Inv X pins σ H { s with toks:=t }:=I.un (h':=s.heap) (t':=t) Un.refl I.hok
theorem Inv.kept {t':Nat} (I:Inv X pins σ H s) (k:∀ b u,s.heap.get? b = some u → h'.get? b = some u):Inv X pins σ H { s with heap:=h',toks:=t' }:=I.un (Un.kept k) (I.hok.kept k)
theorem Inv.laid {a:Addr} {o:HO} {t':Nat} (I:Inv X pins σ H s) (k:∀ b u,s.heap.get? b = some u → h'.get? b = some u) (hp:s.heap.objs.size ≤ a) (new:ObjOk X.prog X.w (upd H a o) h' a o) :
    Inv X pins σ (upd H a o) { s with heap:=h',toks:=t' }:=I.un (Un.laid k hp (I.hok.fresh hp)) (I.hok.laid k hp new)
theorem Inv.write {x e:Addr} {o:HO} {t':Nat} (I:Inv X pins σ H s) (mu:Mut (H x)) (he:e = x ∨ H e = some (.own x)) (k:∀ b u,b ≠ e → s.heap.get? b = some u → h'.get? b = some u) (heo:∃ u,h'.get? e = some u)
    (new:ObjOk X.prog X.w (upd H x o) h' x o):Inv X pins σ (upd H x o) { s with heap:=h',toks:=t' }:=I.un (Un.write mu he k heo) (I.hok.write mu he k heo new)
theorem Inv.weak {σ':List (Option V)} (I:Inv X pins σ H s) (hl:σ'.length = σ.length) (w:∀ (i:Nat) v,σ'[i]? = some (some v) → σ[i]? = some (some v)):Inv X pins σ' H s:=
  ⟨I.ok,I.os,I.bare,I.base,let ⟨m,hn,hl'⟩:=I.loc; ⟨m,hn,fun i x v e1 e2 e3=>hl' i x v e1 (w i v e2) e3⟩,I.cell,I.free,I.freeC,I.pin,I.hok,hl.trans I.len⟩
theorem Inv.pins_of {pins':List (Addr × Obj)} (I:Inv X pins σ H s) (h:∀ p ∈ pins',s.heap.get? p.1 = some p.2 ∧ H p.1 = none ∧ p.1 ≠ X.env.locals ∧ p.1 ∉ X.fs ∧ ∀ v,p.2.data ≠ .cell v):Inv X pins' σ H s:=
  ⟨I.ok,I.os,I.bare,I.base,I.loc,I.cell,I.free,I.freeC,fun p hp=>(List.mem_append.mp hp).elim (fun z=>I.pin p (List.mem_append_left _ z)) (h p),I.hok,I.len⟩
theorem nodup_ix {N:List Str} (hN:N.Nodup) {i j:Nat} {x:Str} (a:N[i]? = some x) (b:N[j]? = some x):i = j:=by
  refine L2.o_E (List.getElem?_eq_some_iff.mp a) fun h1 e1=>?_
  refine L2.o_E (List.getElem?_eq_some_iff.mp b) fun h2 e2=>?_
  exact (List.getElem_inj hN).mp (e1.trans e2.symm)
theorem store_ok2 {M:Model} {A:Around} {E:Value → Shared → Prop} {i:Nat} {x:Str} {v:V} {u:Value} {Q:Unit → Shared → Prop} (I:Inv X pins σ H s) (hN:X.N.Nodup) (hi:X.N[i]? = some x) (hx:Loc X.env.scope x) (r:RelV v u)
    (h:∀ s',Inv X pins (σ.set i (some v)) H s' → (∃ a,Heap.SameBut a s.heap s'.heap ∧ (a = X.env.locals ∨ X.env.cells.lookup x = some a)) → Q () s') (hf:X.fn x = true ∨ X.env.scope.names.lookup x = some .local:=by first | exact .inl rfl | exact .inr rfl | assumption):wpAny M A (storeName X.env x u) Q E s:=by
  refine L2.o_EA (id I.loc) fun m hn hl=>?_
  have hcls:(X.env.scope.kind == .class || (X.env.scope.kind == .module && X.env.locals != X.env.globals)) = false:=by rw [I.ok.kind]; rfl
  have hiσ:i < σ.length:=by rw [I.len]; exact (List.getElem?_eq_some_iff.mp hi).1
  have cne:=I.cne
  have tracked:∀ {a:Addr} {h':Heap},(∃ o,s.heap.get? a = some o ∧ H a = none) → Heap.SameBut a s.heap h' → HOk X.prog X.w H h':=fun {a h'} ha hs b ob e=>by
    refine L2.o_EA (ha) fun _ _ hfree=>?_
    refine (I.hok b ob e).stay (fun c w' hc q=>(hs.2 c ?_).trans q) (fun _ q=>q) fun _ _ q=>q
    rintro rfl
    rcases hc with rfl | hc
    · rw [hfree] at e; cases e
    · rw [hfree] at hc; cases hc
  rcases hx with hk | hk
  · refine wpAny_storeName_local hk hn (fun h' hn' hs=>?_) hcls
    refine L2.o_EEEA (id hn) fun oL _ _ hoL _=>?_
    refine h _ ⟨I.ok,I.os,I.bare,⟨fun b o e n hb hx=>?_,fun b o e n hb hx=>?_,I.base.free,fun b o e hx=>?_,I.base.tups,I.base.frzs,I.base.tbls,I.base.tabs⟩,⟨_,hn',fun j y v' e1 e2 e3=>?_⟩,fun y c e=>?_,I.free,I.freeC,fun p hp=>?_,tracked ⟨oL,hoL,I.free⟩ hs,by simpa using I.len⟩ ⟨_,hs,.inl rfl⟩
    · exact (hs.2 b (Nat.ne_of_lt (Nat.lt_of_lt_of_le (Heap.lt_size e) I.ok.above))).trans (I.base.keep b o e n hb hx)
    · refine L2.o_E (I.base.slot b o e n hb hx) fun sl e1=>?_
      exact ⟨sl,(hs.2 b (Nat.ne_of_lt (Nat.lt_of_lt_of_le (Heap.lt_size e) I.ok.above))).trans e1⟩
    · refine L2.o_E (I.base.there b o e hx) fun o' e1=>?_
      exact ⟨o',(hs.2 b (Nat.ne_of_lt (Nat.lt_of_lt_of_le (Heap.lt_size e) I.ok.above))).trans e1⟩
    · by_cases hj:j = i
      · subst hj
        rw [hi] at e1; cases e1
        rw [List.getElem?_set_self hiσ] at e2
        cases e2
        exact ⟨u,r,.inl ⟨hk,by simp⟩⟩
      · rw [List.getElem?_set_ne (Ne.symm hj)] at e2
        refine L2.o_EA (hl j y v' e1 e2 e3) fun u' r' q=>?_
        refine ⟨u',r',?_⟩
        rcases q with ⟨k,e⟩ | ⟨k,c,e,z⟩
        · refine .inl ⟨k,?_⟩
          have:y ≠ x:=fun e=>hj (nodup_ix hN e1 (e ▸ hi))
          simp [this,e]
        · exact .inr ⟨k,c,e,z.sameBut hs (cne y c e)⟩
    · refine L2.o_E (I.cell y c e) fun w' z=>?_
      exact ⟨w',z.sameBut hs (cne y c e)⟩
    · refine L2.o_AAAA (I.pin p hp) fun e n ne nf d=>?_
      exact ⟨(hs.2 p.1 ne).trans e,n,ne,nf,d⟩
  · have hfn:X.fn x = true:=by
      rcases hf with z | z
      · exact z
      · rw [z] at hk; cases hk
    refine L2.o_E (I.ok.has x (.inl hk)) fun c hc=>?_
    refine L2.o_E (I.cell x c hc) fun w' z=>?_
    refine wpAny_storeName_cell I.ok.kind hk hc z (fun h' hc' hs=>?_)
    refine L2.o_EA (id z) fun oc hoc hocd=>?_
    refine h { s with heap:=h' } ⟨I.ok,I.os,I.bare,⟨fun b o e n hb hx=>?_,fun b o e n hb hx=>?_,I.base.free,fun b o e hx=>?_,I.base.tups,I.base.frzs,I.base.tbls,I.base.tabs⟩,⟨m,hn.sameBut hs (Ne.symm (cne x c hc)),fun j y v' e1 e2 e3=>?_⟩,fun y c' e=>?_,I.free,I.freeC,fun p hp=>?_,tracked ⟨oc,hoc,(I.freeC x c hc).resolve_right fun z=>by have z1:=z.1; rw [hfn] at z1; cases z1⟩ hs,by simpa using I.len⟩ ⟨c,hs,.inr hc⟩
    · exact (hs.2 b (Nat.ne_of_lt (Nat.lt_of_lt_of_le (Heap.lt_size e) (I.ok.cab x c hfn hc)))).trans (I.base.keep b o e n hb hx)
    · refine L2.o_E (I.base.slot b o e n hb hx) fun sl e1=>?_
      exact ⟨sl,(hs.2 b (Nat.ne_of_lt (Nat.lt_of_lt_of_le (Heap.lt_size e) (I.ok.cab x c hfn hc)))).trans e1⟩
    · refine L2.o_E (I.base.there b o e hx) fun o' e1=>?_
      exact ⟨o',(hs.2 b (Nat.ne_of_lt (Nat.lt_of_lt_of_le (Heap.lt_size e) (I.ok.cab x c hfn hc)))).trans e1⟩
    · by_cases hj:j = i
      · subst hj
        rw [hi] at e1; cases e1
        rw [List.getElem?_set_self hiσ] at e2
        cases e2
        exact ⟨u,r,.inr ⟨.inl hk,c,hc,hc'⟩⟩
      · rw [List.getElem?_set_ne (Ne.symm hj)] at e2
        refine L2.o_EA (hl j y v' e1 e2 e3) fun u' r' q=>?_
        refine ⟨u',r',?_⟩
        rcases q with q | ⟨k,c',e,z'⟩
        · exact .inl q
        · refine .inr ⟨k,c',e,z'.sameBut hs ?_⟩
          rintro rfl
          exact hj (nodup_ix hN e1 (I.ok.inj _ _ _ e hc ▸ hi))
    · by_cases hcc:c' = c
      · subst hcc; exact ⟨_,hc'⟩
      · refine L2.o_E (I.cell y c' e) fun w2 z2=>?_
        exact ⟨w2,z2.sameBut hs hcc⟩
    · refine L2.o_AAAA (I.pin p hp) fun e n ne nf d=>?_
      refine ⟨(hs.2 p.1 ?_).trans e,n,ne,nf,d⟩
      intro q
      rw [q,hoc] at e
      have q':oc = p.2:=Option.some.inj e
      exact d w' (by rw [← q']; exact hocd)
theorem store_ok {M:Model} {A:Around} {E:Value → Shared → Prop} {i:Nat} {x:Str} {v:V} {u:Value} {Q:Unit → Shared → Prop} (I:Inv X pins σ H s) (hN:X.N.Nodup) (hi:X.N[i]? = some x) (hx:Loc X.env.scope x) (r:RelV v u)
    (h:∀ s',Inv X pins (σ.set i (some v)) H s' → Q () s') (hf:X.fn x = true ∨ X.env.scope.names.lookup x = some .local:=by first | exact .inl rfl | exact .inr rfl | assumption):wpAny M A (storeName X.env x u) Q E s:=
  store_ok2 I hN hi hx r (fun s' I' _=>h s' I') hf
theorem Inv.call' {s':Shared} {ch:List Addr} (I:Inv X pins σ H s) (ho:s'.os = s.os) (u:Un (frs X.stack) ch H H' s.heap s'.heap) (hok:HOk X.prog X.w H' s'.heap) (hg:AllBare s'.gens)
    (hch:∀ b ∈ ch,(b ∈ X.ex ∨ X.s₀.heap.objs.size ≤ b) ∧ b ≠ X.env.locals ∧ (∀ x c,X.env.cells.lookup x = some c → c ≠ b) ∧ ∀ p ∈ X.pn ++ pins,p.1 ≠ b):Inv X pins σ H' s':=by
  obtain ⟨h',g',d',t',o'⟩:=s'
  have e:o' = s.os:=ho
  subst e
  exact I.call (g':=g') (t':=t') (d':=d') u hok hg hch
end
noncomputable abbrev XK:=Value → Option Addr → Hp → Prop
noncomputable abbrev St:=List (Option V)
noncomputable abbrev VK:=V → Hp → Prop
noncomputable abbrev TE:=St → Hp → VK → Prop
noncomputable abbrev TT:=St → Hp → (Bool → Hp → Prop) → Prop
noncomputable abbrev TA:=St → Hp → (List V → Hp → Prop) → Prop
structure Ends where
  nx:St → Hp → Prop
  rt:VK
  bk:St → Hp → Prop:=fun _ _=>False
  ct:St → Hp → Prop:=fun _ _=>False
noncomputable abbrev TS:=Ends → St → Hp → Prop
inductive EP (X:Cx) (pins:List (Addr × Obj)) (σ:St) (Q:VK) (u:Value) (s':Shared):Prop
  | mk (v:V) (H':Hp) (I:Inv X pins σ H' s') (r:RelV v u) (q:Q v H'):EP X pins σ Q u s'
inductive TP (X:Cx) (pins:List (Addr × Obj)) (σ:St) (Q:Bool → Hp → Prop) (b:Bool) (s':Shared):Prop
  | mk (H':Hp) (I:Inv X pins σ H' s') (q:Q b H'):TP X pins σ Q b s'
theorem TP.elim {X:Cx} {pins:List (Addr × Obj)} {σ:St} {Q:Bool → Hp → Prop} {b:Bool} {s':Shared} {P:Prop} (h:TP X pins σ Q b s') (k:∀ H',Inv X pins σ H' s' → Q b H' → P):P:=by cases h with | mk H' I q=>exact k H' I q
inductive AP (X:Cx) (pins:List (Addr × Obj)) (σ:St) (Q:List V → Hp → Prop) (us:List Value) (s':Shared):Prop
  | mk (vs:List V) (H':Hp) (I:Inv X pins σ H' s') (r:Vals vs us) (q:Q vs H'):AP X pins σ Q us s'
noncomputable def SP (X:Cx) (pins:List (Addr × Obj)) (D:Ends) (f:Flow) (s':Shared):Prop:=
  match f with
  | .next=>∃ σ' H',Inv X pins σ' H' s' ∧ D.nx σ' H'
  | .brk=>∃ σ' H',Inv X pins σ' H' s' ∧ D.bk σ' H'
  | .cont=>∃ σ' H',Inv X pins σ' H' s' ∧ D.ct σ' H'
  | .ret u=>∃ v σ' H',Inv X pins σ' H' s' ∧ RelV v u ∧ D.rt v H'
noncomputable def PE (X:Cx) (e:Expr) (t:TE):Prop:=
  ∀ (pins:List (Addr × Obj)) (s:Shared) (σ:St) (H:Hp) (Q:VK),Inv X pins σ H s → t σ H Q → wpAny (model X.prog X.w) X.A (eval e X.env) (EP X pins σ Q) X.xe s
noncomputable def PT (X:Cx) (e:Expr) (t:TT):Prop:=
  ∀ (pins:List (Addr × Obj)) (s:Shared) (σ:St) (H:Hp) (Q:Bool → Hp → Prop),Inv X pins σ H s → t σ H Q → wpAny (model X.prog X.w) X.A (isTrue e X.env (eval e X.env)) (TP X pins σ Q) X.xe s
noncomputable def PW (X:Cx) (e:Expr) (t:TT):Prop:=
  ∀ (whole:Sem Value) (pins:List (Addr × Obj)) (s:Shared) (σ:St) (H:Hp) (Q:Bool → Hp → Prop),Inv X pins σ H s → t σ H Q → wpAny (model X.prog X.w) X.A (isTrue e X.env whole) (TP X pins σ Q) X.xe s
theorem PW.pt {X:Cx} {e:Expr} {t:TT} (h:PW X e t):PT X e t:=h _
noncomputable def PA (X:Cx) (es:List Expr) (t:TA):Prop:=
  ∀ (pos:Pos) (pins:List (Addr × Obj)) (s:Shared) (σ:St) (H:Hp) (Q:List V → Hp → Prop),Inv X pins σ H s → t σ H Q → wpAny (model X.prog X.w) X.A (spliced (backTo pos (starEach es X.env))) (AP X pins σ Q) X.xe s
noncomputable def PS (X:Cx) (st:Stmt) (t:TS):Prop:=
  ∀ (pins:List (Addr × Obj)) (s:Shared) (σ:St) (H:Hp) (D:Ends),Inv X pins σ H s → t D σ H → wpAny (model X.prog X.w) X.A (exec st X.env) (SP X pins D) X.xe s
noncomputable def PSs (X:Cx) (st:List Stmt) (t:TS):Prop:=
  ∀ (pins:List (Addr × Obj)) (s:Shared) (σ:St) (H:Hp) (D:Ends),Inv X pins σ H s → t D σ H → wpAny (model X.prog X.w) X.A (execs st X.env) (SP X pins D) X.xe s
theorem thn {α:Type} {t:Sem α} {Q Q':α → Shared → Prop} {M:Model} {A:Around} {E:Value → Shared → Prop} {s:Shared} (h:wpAny M A t Q E s) (hQ:∀ a s,Q a s → Q' a s):wpAny M A t Q' E s:=wpAny_mono h hQ fun _ _ x=>x
end L2
namespace L2
open PySem PySem.Spec PyProof.Rows
section
variable {X:Cx}
noncomputable def tVar (i:Nat):TE:=fun σ H Q=>∃ v,σ[i]? = some (some v) ∧ Q v H
noncomputable def tC (v:V):TE:=fun _ H Q=>Q v H
theorem pe_var {i:Nat} {x:Str} {pos:Pos} (hN:X.N[i]? = some x) (hv:Vis X.env.scope x) (hd:autoParam ((x == ("__debug__":Str)) = false) L2.ad._auto_1) (hcd:autoParam ((x == ("__classdict__":Str)) = false) L2.ad._auto_1):PE X (.Name x pos) (tVar i):=by
  intro pins s σ H Q I h
  revert h
  refine fun zqq=>L2.o_EA zqq fun v e h=>?_
  clear zqq
  refine L2.o_EA (I.loc) fun m hn hl=>?_
  refine L2.o_EA (hl i x v hN e hv) fun u r l=>?_
  have fin:EP X pins σ Q u s:=⟨v,H,I,r,h⟩
  rcases l with ⟨hk,hm⟩ | ⟨hk,c,hc,hcell⟩
  · exact wpAny_Name (wpAny_loadName_local I.ok.kind hk hn hm fin) hd
  · rcases hk with hk | hk
    · exact wpAny_Name (wpAny_loadName_cell I.ok.kind hk hc hcell fin) hd
    · exact wpAny_Name (wpAny_loadName_free I.ok.kind hk hc hcell fin hcd) hd
theorem pe_int {i j pos}:PE X (.Constant (.int i) j pos) (tC (.int i)):=fun _ _ _ H _ I h=>wpAny_Constant_int ⟨.int i,H,I.tok _,⟨_,rfl⟩,h⟩
theorem pe_bl {b j pos}:PE X (.Constant (.bool b) j pos) (tC (.bl b)):=fun _ _ _ H _ I h=>Constant_bool ⟨.bl b,H,I,rfl,h⟩
theorem pe_non {j pos}:PE X (.Constant .none j pos) (tC .non):=fun _ _ _ H _ I h=>Constant_none ⟨.non,H,I,rfl,h⟩
noncomputable def Gl (X:Cx) (x:Str):Prop:=X.env.kindOf x = some .globalImplicit
theorem ld_glob {E:Value → Shared → Prop} {pins:List (Addr × Obj)} {s:Shared} {σ:St} {H:Hp} {x:Str} {u:Value} {pos:Pos} {Q:Value → Shared → Prop} (I:Inv X pins σ H s) (hg:Gl X x) (hm:X.mg x = some u) (h:Q u s)
    (hd:autoParam ((x == ("__debug__":Str)) = false) L2.ad._auto_1):wpAny (model X.prog X.w) X.A (eval (.Name x pos) X.env) Q E s:=
  Calls.Name_function_global I.ok.kind hg (Calls.loadGlobal_global (by rw [I.ok.glob]; exact I.mod.glob.keeps I.bk) hm h) hd
theorem ld_blt {E:Value → Shared → Prop} {pins:List (Addr × Obj)} {s:Shared} {σ:St} {H:Hp} {x:Str} {u:Value} {pos:Pos} {Q:Value → Shared → Prop} (I:Inv X pins σ H s) (hg:Gl X x) (hm:X.mg x = none) (hv:bootBuiltins x = some u) (h:Q u s)
    (hn:autoParam (x ≠ "__name__") L2.ad._auto_1) (hd:autoParam ((x == ("__debug__":Str)) = false) L2.ad._auto_1):wpAny (model X.prog X.w) X.A (eval (.Name x pos) X.env) Q E s:=by
  refine L2.o_EA (I.mod.blt) fun mb h1 h2=>?_
  exact Calls.Name_function_global I.ok.kind hg (Calls.loadGlobal_builtin (by rw [I.ok.glob]; exact I.mod.glob.keeps I.bk) hm (by rw [I.ok.blt]; exact h1.keeps I.bk) ((h2 x hn).trans hv) h) hd
noncomputable def t2I (ta tb:TE) (k:Int → Int → Hp → Prop):St → Hp → Prop:=fun σ H=>ta σ H fun x H1=>tb σ H1 fun y H2=>∃ i j,x = .int i ∧ y = .int j ∧ k i j H2
variable {a b:Expr} {ta tb:TE} {pos:Pos}
noncomputable def PC (X:Cx) (op:CmpOp) (a b:Expr) (t:TE):Prop:=
  ∀ (pins:List (Addr × Obj)) (s:Shared) (σ:St) (H:Hp) (Q:VK),Inv X pins σ H s → t σ H Q →
    wpAny (model X.prog X.w) X.A (eval a X.env) (fun v s₁=>wpAny (model X.prog X.w) X.A (eval b X.env) (fun u s₂=>wpAny (model X.prog X.w) X.A (compareOp op v u) (EP X pins σ Q) X.xe s₂) X.xe s₁) X.xe s
noncomputable def tCmp (p:Int → Int → Bool) (ta tb:TE):TE:=fun σ H Q=>t2I ta tb (fun i j H2=>Q (.bl (p i j)) H2) σ H
noncomputable abbrev tLt:TE → TE → TE:=tCmp fun i j=>decide (i < j)
noncomputable abbrev tLe:TE → TE → TE:=tCmp fun i j=>decide (i ≤ j)
noncomputable abbrev tGt:TE → TE → TE:=tCmp fun i j=>decide (j < i)
noncomputable abbrev tGe:TE → TE → TE:=tCmp fun i j=>decide (j ≤ i)
noncomputable abbrev tEqI:TE → TE → TE:=tCmp fun i j=>decide (i = j)
noncomputable abbrev tNeI:TE → TE → TE:=tCmp fun i j=>!decide (i = j)
noncomputable def tB (t:TE):TT:=fun σ H Q=>t σ H fun x H1=>∃ c,x = .bl c ∧ Q c H1
theorem pt_val {e:Expr} {t:TE} (h:PE X e t) (he:∀ whole,isTrue e X.env whole = (do let v ← whole; standAt e.pos; holding [v] (truthy v)):=by intro _; rfl):PT X e (tB t):=by
  intro pins s σ H Q I hw
  refine isTrue_plain (thn (h pins s σ H _ I hw) fun v s1 ⟨x,H1,I1,r1,q1⟩=>?_) (he _)
  revert q1
  refine fun zqq=>L2.o_EA zqq fun d zq1 q=>?_
  clear zqq
  subst zq1
  cases r1
  exact wpAny_truthy_bool ⟨H1,I1,q⟩
variable {tA tB':TT} {rest:List Expr}
noncomputable def tOr (t u:TT):TT:=fun σ H Q=>t σ H fun c H1=>if c = true then Q true H1 else u σ H1 Q
theorem pw_or1 (ha:PT X a tA):PW X (.BoolOp .Or [a] pos) tA:=by
  intro wh pins s σ H Q I h
  refine isTrue_or (thn (ha pins s σ H Q I h) fun c s1 e=>?_)
  cases c with
  | false=>exact isTrue_or_nil e
  | true=>exact e
theorem pw_or (ha:PT X a tA) (hb:PW X (.BoolOp .Or (b :: rest) pos) tB'):PW X (.BoolOp .Or (a :: b :: rest) pos) (tOr tA tB'):=by
  intro wh pins s σ H Q I h
  refine isTrue_or (thn (ha pins s σ H _ I h) fun c s1 zpat=>?_)
  obtain ⟨H1,I1,q1⟩:=zpat
  cases c with
  | true=>exact ⟨H1,I1,q1⟩
  | false=>exact hb wh pins s1 σ H1 Q I1 q1
noncomputable def tIf (t:TT) (ta tb:TE):TE:=fun σ H Q=>t σ H fun c H1=>if c = true then ta σ H1 Q else tb σ H1 Q
theorem pe_ifExp {c:Expr} (hc:PT X c tA) (ha:PE X a ta) (hb:PE X b tb):PE X (.IfExp c a b pos) (tIf tA ta tb):=by
  intro pins s σ H Q I h
  refine wpAny_IfExp (thn (hc pins s σ H _ I h) fun d s1 zpat=>?_)
  obtain ⟨H1,I1,q1⟩:=zpat
  cases d with
  | true=>exact ha pins s1 σ H1 Q I1 q1
  | false=>exact hb pins s1 σ H1 Q I1 q1
end
end L2
namespace L2
open PySem PySem.Spec PyProof.Rows
noncomputable def SqL (K:PySem.W.Frag) (H:Hp) (a:Addr) (xs:List V):Prop:=
  Rd H a (.lst xs) ∨
    ∃ (o:Obj) (its:Array Value) (n:Nat),K.lookup a = some o ∧ o.cls = .type "list" ∧ o.dict = none ∧ o.data = .seq its n ∧ its.size ≤ sizeLine ∧ Vals xs its.toList
noncomputable def SqT (K:PySem.W.Frag) (H:Hp) (a:Addr) (xs:List V):Prop:=
  Rd H a (.tup xs) ∨
    ∃ (o:Obj) (its:Array Value) (n:Nat),K.lookup a = some o ∧ o.cls = .type "tuple" ∧ o.data = .seq its n ∧ its.size ≤ sizeLine ∧ Vals xs its.toList
noncomputable def absV:Value → Option V
  | .none=>some .non
  | .bool b=>some (.bl b)
  | .int i _=>some (.int i)
  | .str x _=>some (.str x)
  | .bytes b _=>some (.byt b)
  | .float b _=>some (.flt b)
  | .ref a=>some (.ref a)
  | .type n=>some (.ty n)
  | _=>none
theorem RelV.abs {x:V} {u:Value} (r:RelV x u):absV u = some x:=by
  cases x with
  | non=>cases r; rfl
  | bl _=>cases r; rfl
  | int _=>obtain ⟨t,rfl⟩:=r; rfl
  | str _=>obtain ⟨t,rfl⟩:=r; rfl
  | byt _=>obtain ⟨t,rfl⟩:=r; rfl
  | flt _=>obtain ⟨t,rfl⟩:=r; rfl
  | ref _=>cases r; rfl
  | ty _=>cases r; rfl
theorem RelV.inj {x y:V} {u:Value} (r:RelV x u) (q:RelV y u):x = y:=Option.some.inj (r.abs.symm.trans q.abs)
theorem Vals.inj {xs ys:List V} {us:List Value} (h:Vals xs us) (h':Vals ys us):xs = ys:=by
  induction h generalizing ys with
  | nil=>cases h'; rfl
  | cons r t ih=>
    cases h' with
    | cons r' t'=>rw [r.inj r',ih t']
section
variable {X:Cx} {pins:List (Addr × Obj)} {σ:St} {H:Hp} {s:Shared} {a:Addr} {xs ys:List V}
theorem SqL.of {K:PySem.W.Frag} (h:H a = some (.lst xs)):SqL K H a xs:=.inl (.inl h)
theorem SqT.of {K:PySem.W.Frag} (h:H a = some (.tup xs)):SqT K H a xs:=.inl (.inl h)
theorem Inv.list (I:Inv X pins σ H s) (h:SqL X.K H a xs):∃ its:List Value,Vals xs its ∧ PlainL s.heap a its.toArray ∧ xs.length ≤ sizeLine:=by
  rcases h with h | ⟨o,its,n,hk,hc,hd,hs,hz,r⟩
  · refine L2.o_AEEA (h.ok I.hok) fun z its n r e=>?_
    exact ⟨its,r,⟨_,n,e,rfl,rfl,rfl⟩,z⟩
  · refine ⟨its.toList,r,⟨o,n,I.kIn a o hk,hc,hd,by simpa using hs⟩,?_⟩
    have e:=r.length
    simp only [Array.length_toList] at e
    omega
theorem Inv.tuple (I:Inv X pins σ H s) (h:SqT X.K H a xs):∃ its:List Value,Vals xs its ∧ IsTup s.heap a its.toArray ∧ xs.length ≤ sizeLine:=by
  rcases h with h | ⟨o,its,n,hk,hc,hs,hz,r⟩
  · refine L2.o_AEA (h.ok I.hok) fun z its r p=>?_
    exact ⟨its,r,p,z⟩
  · refine ⟨its.toList,r,⟨o,I.kIn a o hk,hc,n,by simpa using hs⟩,?_⟩
    have e:=r.length
    simp only [Array.length_toList] at e
    omega
theorem Inv.list_inj (I:Inv X pins σ H s) (h:SqL X.K H a xs) (h':SqL X.K H a ys):xs = ys:=by
  obtain ⟨its,r,⟨o,n,e,_,_,d⟩,_⟩:=I.list h
  obtain ⟨its',r',⟨o',n',e',_,_,d'⟩,_⟩:=I.list h'
  rw [e] at e'; cases e'
  rw [d] at d'
  injection d' with d1 _
  have:its = its':=by simpa using congrArg Array.toList d1
  subst this
  exact r.inj r'
end
noncomputable abbrev Cx.wish (X:Cx) (E:Value → Shared → Prop):Cx:={ X with xe:=E }
noncomputable abbrev Cx.nox (X:Cx):Cx:=X.wish fun _ _=>False
theorem Cx.Ok.wish {X:Cx} (ok:X.Ok) (E:Value → Shared → Prop):(X.wish E).Ok:=
  ⟨ok.mod,ok.kind,ok.glob,ok.blt,ok.above,ok.inj,ok.has,ok.cab,ok.hd,ok.frames,ok.stk,ok.exf,ok.bs,ok.bsz,ok.noex,ok.exfs,ok.funs,ok.frf,ok.tabs⟩
theorem Cx.Ok.unwish {X:Cx} {E:Value → Shared → Prop} (ok:(X.wish E).Ok):X.Ok:=
  ⟨ok.mod,ok.kind,ok.glob,ok.blt,ok.above,ok.inj,ok.has,ok.cab,ok.hd,ok.frames,ok.stk,ok.exf,ok.bs,ok.bsz,ok.noex,ok.exfs,ok.funs,ok.frf,ok.tabs⟩
section
variable {X:Cx} {pins:List (Addr × Obj)} {σ:St} {H:Hp} {s:Shared} {E:Value → Shared → Prop}
theorem Inv.wish (I:Inv X pins σ H s) (E:Value → Shared → Prop):Inv (X.wish E) pins σ H s:=⟨I.ok.wish E,I.os,I.bare,I.base,I.loc,I.cell,I.free,I.freeC,I.pin,I.hok,I.len⟩
theorem Inv.unwish (I:Inv (X.wish E) pins σ H s):Inv X pins σ H s:=⟨I.ok.unwish,I.os,I.bare,I.base,I.loc,I.cell,I.free,I.freeC,I.pin,I.hok,I.len⟩
theorem SP.unwish {D:Ends} {f:Flow} {s':Shared} (h:SP (X.wish E) pins D f s'):SP X pins D f s':=by
  cases f with
  | next=>obtain ⟨σ',H',I,q⟩:=h; exact ⟨σ',H',I.unwish,q⟩
  | brk=>obtain ⟨σ',H',I,q⟩:=h; exact ⟨σ',H',I.unwish,q⟩
  | cont=>obtain ⟨σ',H',I,q⟩:=h; exact ⟨σ',H',I.unwish,q⟩
  | ret u=>obtain ⟨v,σ',H',I,r,q⟩:=h; exact ⟨v,σ',H',I.unwish,r,q⟩
theorem PE.nox {e:Expr} {t:TE} (h:PE X.nox e t):PE X e t:=fun pins s σ H Q I hw=>
  wpAny_mono (h pins s σ H Q (I.wish _) hw) (fun _ _ ⟨v,H',I',r,q⟩=>⟨v,H',I'.unwish,r,q⟩) fun _ _ z=>False.elim z
theorem PT.nox {e:Expr} {t:TT} (h:PT X.nox e t):PT X e t:=fun pins s σ H Q I hw=>
  wpAny_mono (h pins s σ H Q (I.wish _) hw) (fun _ _ ⟨H',I',q⟩=>⟨H',I'.unwish,q⟩) fun _ _ z=>False.elim z
theorem PSs.nox {st:List Stmt} {t:TS} (h:PSs X.nox st t):PSs X st t:=fun pins s σ H D I hw=>
  wpAny_mono (h pins s σ H D (I.wish _) hw) (fun _ _ q=>q.unwish) fun _ _ z=>False.elim z
end
section
variable {X:Cx} {st:Stmt} {rest:List Stmt} {t u:TS} {e:Expr} {te:TE} {pos:Pos}
noncomputable def tNext:TS:=fun D σ H=>D.nx σ H
noncomputable def tSeq (t u:TS):TS:=fun D σ H=>t { D with nx:=u D } σ H
theorem pss_nil:PSs X [] tNext:=fun _ _ σ H _ I h=>wpAny_execs_nil ⟨σ,H,I,h⟩
theorem pss_cons (h1:PS X st t) (h2:PSs X rest u):PSs X (st :: rest) (tSeq t u):=by
  intro pins s σ H D I h
  refine wpAny_execs_cons (thn (h1 pins s σ H { D with nx:=u D } I h) fun f s1 q=>?_)
  cases f with
  | next=>
    revert q
    refine fun zqq=>L2.o_EEA zqq fun σ' H' I' q=>?_
    clear zqq
    exact h2 pins s1 σ' H' D I' q
  | ret v=>exact q
  | brk=>exact q
  | cont=>exact q
theorem pss_one (h1:PS X st t):PSs X [st] t:=by
  intro pins s σ H D I h
  refine wpAny_execs_cons (thn (h1 pins s σ H D I h) fun f s1 q=>?_)
  cases f with
  | next=>exact wpAny_execs_nil q
  | ret v=>exact q
  | brk=>exact q
  | cont=>exact q
theorem Inv.quiet {pins:List (Addr × Obj)} {σ:St} {H:Hp} {s:Shared} (I:Inv X pins σ H s):interactive X.env = false:=by simp [interactive,I.ok.kind]
noncomputable def tDrop (te:TE):TS:=fun D σ H=>te σ H fun _ H1=>D.nx σ H1
theorem ps_expr (he:PE X e te) (hs:autoParam (swapsWith e none pos.line X.env = pure false) L2.ar._auto_1):PS X (.Expr e pos) (tDrop te):=by
  intro pins s σ H D I h
  exact wpAny_Expr_any (thn (he pins s σ H _ I h) fun v s1 ⟨x,H1,I1,r1,q1⟩=>⟨σ,H1,I1,q1⟩) I.quiet hs
noncomputable def tRet (te:TE):TS:=fun D σ H=>te σ H D.rt
theorem ps_ret (he:PE X e te):PS X (.Return (some e) pos) (tRet te):=by
  intro pins s σ H D I h
  exact wpAny_Return_some (thn (he pins s σ H _ I h) fun v s1 ⟨x,H1,I1,r1,q1⟩=>⟨x,σ,H1,I1,r1,q1⟩)
noncomputable def tIfS (c:TT) (t u:TS):TS:=fun D σ H=>c σ H fun b H1=>if b = true then t D σ H1 else u D σ H1
theorem ps_if {c:Expr} {a b:List Stmt} {tc:TT} (hc:PT X c tc) (ha:PSs X a t) (hb:PSs X b u):PS X (.If c a b pos) (tIfS tc t u):=by
  intro pins s σ H D I h
  refine wpAny_If (thn (hc pins s σ H _ I h) fun d s1 zpat=>?_)
  obtain ⟨H1,I1,q1⟩:=zpat
  cases d with
  | true=>exact ha pins s1 σ H1 D I1 q1
  | false=>exact hb pins s1 σ H1 D I1 q1
noncomputable def tNever:TS:=fun _ _ _=>False
theorem ps_never:PS X st tNever:=fun _ _ _ _ _ _ h=>h.elim
end
noncomputable abbrev TG:=V → St → Hp → (St → Hp → Prop) → Prop
noncomputable abbrev TGs:=List V → St → Hp → (St → Hp → Prop) → Prop
noncomputable def PG (X:Cx) (target:Expr) (t:TG):Prop:=
  ∀ (pins:List (Addr × Obj)) (s:Shared) (σ:St) (H:Hp) (v:V) (u:Value) (Q:St → Hp → Prop),Inv X pins σ H s → RelV v u → t v σ H Q →
    wpAny (model X.prog X.w) X.A (assign target X.env u) (fun _ s'=>∃ σ' H',Inv X pins σ' H' s' ∧ Q σ' H') X.xe s
noncomputable def PGs (X:Cx) (ts:List Expr) (t:TGs):Prop:=
  ∀ (pins:List (Addr × Obj)) (s:Shared) (σ:St) (H:Hp) (vs:List V) (us:List Value) (Q:St → Hp → Prop),Inv X pins σ H s → Vals vs us → t vs σ H Q →
    wpAny (model X.prog X.w) X.A (assignInOrder ((assignEach ts X.env).map (·.2)) us) (fun _ s'=>∃ σ' H',Inv X pins σ' H' s' ∧ Q σ' H') X.xe s
noncomputable abbrev TSet:=V → V → V → Hp → (Hp → Prop) → Prop
noncomputable abbrev TIp:=V → V → Hp → VK → Prop
section
variable {X:Cx} {pos:Pos}
noncomputable def gName (i:Nat):TG:=fun v σ H Q=>Q (σ.set i (some v)) H
theorem pg_name {i:Nat} {x:Str} (hN:X.N.Nodup) (hi:X.N[i]? = some x) (hx:Loc X.env.scope x) (hf:X.fn x = true ∨ X.env.scope.names.lookup x = some .local:=by first | exact .inl rfl | exact .inr rfl | assumption):PG X (.Name x pos) (gName i):=by
  intro pins s σ H v u Q I r h
  exact wpAny_assign_Name (store_ok I hN hi hx r (fun s' I'=>⟨_,H,I',h⟩) hf)
noncomputable def gNil:TGs:=fun vs σ H Q=>vs = [] ∧ Q σ H
noncomputable def gCons (t:TG) (u:TGs):TGs:=fun vs σ H Q=>∃ v r,vs = v :: r ∧ t v σ H fun σ' H'=>u r σ' H' Q
theorem pgs_nil:PGs X [] gNil:=by
  intro pins s σ H vs us Q I r h
  revert h
  refine fun zqq=>L2.o_A zqq fun e h=>?_
  clear zqq
  subst e
  cases r
  exact assignInOrder_nil ⟨σ,H,I,h⟩
theorem pgs_cons {e:Expr} {es:List Expr} {t:TG} {u:TGs} (h1:PG X e t) (h2:PGs X es u)
    (hs:autoParam ((assignEach (e :: es) X.env).map (·.2) = assign e X.env :: (assignEach es X.env).map (·.2)) L2.ar._auto_1):PGs X (e :: es) (gCons t u):=by
  intro pins s σ H vs us Q I r h
  revert h
  refine fun zqq=>L2.o_EEA zqq fun v vr e1 h=>?_
  clear zqq
  subst e1
  cases r with
  | cons r rr=>
    rw [hs]
    refine assignInOrder_cons (thn (h1 pins s σ H _ _ _ I r h) fun _ s1 zpat=>?_)
    refine L2.o_EEA (zpat) fun σ1 H1 I1 q1=>?_
    exact h2 pins s1 σ1 H1 _ _ Q I1 rr q1
noncomputable def gTup (K:PySem.W.Frag) (n:Nat) (t:TGs):TG:=fun v σ H Q=>∃ a xs,v = .ref a ∧ SqT K H a xs ∧ xs.length = n ∧ t xs σ H Q
theorem pg_tup {es:List Expr} {k:Nat} {t:TGs} {n:Nat} (hc:X.calm = true) (h:PGs X es t)
    (hn:autoParam ((assignEach es X.env).length = n) L2.ar._auto_1) (hst:autoParam ((assignEach es X.env).findIdx? (·.1) = none) L2.ar._auto_1):PG X (.Tuple es k pos) (gTup X.K n t):=by
  intro pins s σ H v u Q I r hw
  revert hw
  refine fun zqq=>L2.o_EEAAA zqq fun a xs e1 hq hl hw=>?_
  clear zqq
  subst e1
  cases r
  refine L2.o_EAA (I.tuple hq) fun its rv ht hz=>?_
  refine assign_Tuple_tuple (I.ok.hd hc) ht (by simp [hn,← hl,rv.length]) hst fun h' hx=>?_
  have I1:Inv X pins σ H { s with heap:=h' }:=I.kept (t':=s.toks) fun b o e=>hx b o (Nat.ne_of_lt (Heap.lt_size e)) e
  exact h pins _ σ H xs _ Q I1 (by simpa using rv) hw
noncomputable def tAsg (te:TE) (g:TG):TS:=fun D σ H=>te σ H fun x H1=>g x σ H1 D.nx
theorem ps_asg {tg e:Expr} {te:TE} {g:TG} (he:PE X e te) (hg:PG X tg g) (hs:autoParam (swapsWithSole [tg] e pos.line X.env = pure false) L2.ar._auto_1) (hw:autoParam (swappedStores [tg] e X.env = pure none) L2.ar._auto_1)
    (h1:autoParam ((assignEach [tg] X.env).map (·.2) = [assign tg X.env]) L2.ar._auto_1):PS X (.Assign [tg] e pos) (tAsg te g):=by
  intro pins s σ H D I h
  refine wpAny_Assign_stores (thn (he pins s σ H _ I h) fun v s1 ⟨x,H1,I1,r1,q1⟩=>?_) hs hw
  rw [h1]
  exact thn (hg pins s1 σ H1 x v _ I1 r1 q1) fun _ s2 q=>q
theorem ps_set {i:Nat} {x:Str} {e:Expr} {te:TE} {pos':Pos} (hN:X.N.Nodup) (hi:X.N[i]? = some x) (hx:Loc X.env.scope x) (he:PE X e te) (hs:autoParam (swapsWith e (some (.Name x pos')) pos.line X.env = pure false) L2.ar._auto_1) (hf:X.fn x = true ∨ X.env.scope.names.lookup x = some .local:=by first | exact .inl rfl | exact .inr rfl | assumption) :
    PS X (.Assign [.Name x pos'] e pos) (tAsg te (gName i)):=by
  intro pins s σ H D I h
  refine wpAny_Assign_Name (thn (he pins s σ H _ I h) fun v s1 ⟨y,H1,I1,r1,q1⟩=>?_) hs
  exact store_ok I1 hN hi hx r1 (fun s2 I2=>⟨_,H1,I2,q1⟩) hf
end
section
variable {X:Cx} {pos:Pos}
noncomputable def tWhile (c:TT) (tb:TS):TS:=fun D σ H=>∃ W:Nat → St → Hp → Prop,(∃ m,W m σ H) ∧ ∀ m σ H,W m σ H →
  c σ H fun b H1=>if b = true then ∃ N:St → Hp → Prop,(∀ σ' H',N σ' H' → ∃ m',m' < m ∧ W m' σ' H') ∧ tb { D with nx:=N,ct:=N,bk:=D.nx } σ H1 else D.nx σ H1
theorem ps_while {c:Expr} {body:List Stmt} {tc:TT} {tb:TS} (hp:PassesOwn (model X.prog X.w) X.A X.env X.xe) (hc:PT X c tc) (hb:PSs X body tb):PS X (.While c body [] pos) (tWhile tc tb):=by
  intro pins s σ H D I h
  obtain ⟨W,⟨m0,w0⟩,turn⟩:=h
  refine wpAny_While (codeAny_whileLoop (fun n s'=>∃ σ' H',Inv X pins σ' H' s' ∧ W n σ' H') ?_ m0 ⟨σ,H,I,w0⟩)
  rintro n s1 ⟨σ1,H1,I1,w1⟩
  refine wpAny_passesOwn hp (thn (hc pins s1 σ1 H1 _ I1 (turn n σ1 H1 w1)) fun b s2 zpat=>?_)
  obtain ⟨H2,I2,q2⟩:=zpat
  cases b with
  | true=>
    revert q2
    refine fun zqq=>L2.o_EA zqq fun N hN q2=>?_
    clear zqq
    rw [if_pos rfl]
    refine wpAny_passesOwn hp (thn (hb pins s2 σ1 H2 _ I2 q2) fun f s3 q3=>?_)
    cases f with
    | next=>
      refine L2.o_EEA (q3) fun σ3 H3 I3 n3=>?_
      refine L2.o_EA (hN σ3 H3 n3) fun m' hm w3=>?_
      exact L2.i_EAEEA (m') (hm) (σ3) (H3) (I3) (w3)
    | cont=>
      refine L2.o_EEA (q3) fun σ3 H3 I3 n3=>?_
      refine L2.o_EA (hN σ3 H3 n3) fun m' hm w3=>?_
      exact L2.i_EAEEA (m') (hm) (σ3) (H3) (I3) (w3)
    | brk=>exact q3
    | ret v=>exact q3
  | false=>
    rw [if_neg Bool.false_ne_true]
    exact wpAny_execs_nil ⟨σ1,H2,I2,q2⟩
end
structure It where
  go:Nat → Hp → Prop
  yld:Nat → Hp → V → Hp → Prop
  stop:Nat → Hp → Prop
noncomputable def FpOk (X:Cx) (pins:List (Addr × Obj)) (H:Hp) (b:Addr):Prop:=
  H b = none ∧ b ≠ X.env.locals ∧ b ∉ X.fs ∧ (b ∈ X.ex ∨ X.s₀.heap.objs.size ≤ b) ∧ (∀ x c,X.env.cells.lookup x = some c → c ≠ b) ∧ ∀ p ∈ X.pn ++ pins,p.1 ≠ b
theorem Inv.fpOk {X:Cx} {pins:List (Addr × Obj)} {σ:St} {H H':Hp} {s:Shared} {b:Addr} (I:Inv X pins σ H s) (hb:s.heap.objs.size ≤ b) (hn:H' b = none):FpOk X pins H' b:=by
  refine ⟨hn,Nat.ne_of_gt (Nat.lt_of_lt_of_le I.lt hb),I.nofs hb,.inr (Nat.le_trans I.sz hb),fun x c e z=>?_,fun p hp z=>?_⟩
  · refine L2.o_E (I.cell x c e) fun v q=>?_
    exact absurd (Nat.lt_of_lt_of_le q.lt (by rw [z]; exact hb)) (Nat.lt_irrefl _)
  · exact absurd (Nat.lt_of_lt_of_le (Heap.lt_size (I.pin p hp).1) (by rw [z]; exact hb)) (Nat.lt_irrefl _)
structure Turn (P:Program) (w:World) (K:PySem.W.Frag) (tg:Expr) (J:It) (fp:List Addr) (it:Addr) (tn:Nat → Heap → Prop):Prop where
  mem:it ∈ fp
  obj:∀ i h,tn i h → ∀ b ∈ fp,∃ o,h.get? b = some o ∧ ∀ v,o.data ≠ .cell v
  keep:∀ i h h',tn i h → (∀ b ∈ fp,∀ o,h.get? b = some o → h'.get? b = some o) → tn i h'
  item:∀ (X:Cx),X.prog = P → X.w = w → X.K = K → X.calm = true → ∀ (i:Nat) (pins:List (Addr × Obj)) (s:Shared) (σ:St) (H:Hp) (E:Value → Shared → Prop),Inv X pins σ H s → (∀ b ∈ fp,FpOk X pins H b) → tn i s.heap → J.go i H →
    wpAny (model P w) X.A (pyNext (.ref it)) (fun r s1=>∃ u,r = some u ∧
      wpAny (model P w) X.A (letOwnedTupleGo tg (.ref it) u) (fun _ s2=>∃ x H',Inv X pins σ H' s2 ∧ RelV x u ∧ J.yld i H x H' ∧ tn (i + 1) s2.heap ∧ ∀ b ∈ fp,H' b = none) E s1) E s
  done:∀ (X:Cx),X.prog = P → X.w = w → X.K = K → X.calm = true → ∀ (i:Nat) (pins:List (Addr × Obj)) (s:Shared) (σ:St) (H:Hp) (E:Value → Shared → Prop),Inv X pins σ H s → (∀ b ∈ fp,FpOk X pins H b) → tn i s.heap → J.stop i H →
    wpAny (model P w) X.A (pyNext (.ref it)) (fun r s1=>r = none ∧ Inv X pins σ H s1) E s
  self:∀ (A:Around) (i:Nat) (s:Shared) (Q:Value → Shared → Prop) (E:Value → Shared → Prop),tn i s.heap → Q (.ref it) s → wpAny (model P w) A (pyIter (.ref it)) Q E s
noncomputable abbrev TI:=St → Hp → (It → Hp → Prop) → Prop
noncomputable def PIE (X:Cx) (pins:List (Addr × Obj)) (σ:St) (tg:Expr) (R:It → Hp → Prop) (itv:Value) (s2:Shared):Prop:=
  ∃ (it:Addr) (fp:List Addr) (tn:Nat → Heap → Prop) (J:It) (H':Hp),itv = .ref it ∧ Inv X pins σ H' s2 ∧ Turn X.prog X.w X.K tg J fp it tn ∧ tn 0 s2.heap ∧ (∀ b ∈ fp,FpOk X pins H' b) ∧ R J H'
noncomputable def PI (X:Cx) (tg iter:Expr) (wi:TI):Prop:=
  ∀ (pins:List (Addr × Obj)) (s:Shared) (σ:St) (H:Hp) (R:It → Hp → Prop),Inv X pins σ H s → wi σ H R →
    wpAny (model X.prog X.w) X.A (eval iter X.env) (fun v s1=>wpAny (model X.prog X.w) X.A (pyIter v) (PIE X pins σ tg R) X.xe s1) X.xe s
theorem go_of {M:Model} {A:Around} {E:Value → Shared → Prop} {s:Shared} {tg:Expr} {it:Addr} {u:Value} {o:Obj} {n:String} {vs:Array Value} {Q:Unit → Shared → Prop} (ho:s.heap.get? it = some o) (hc:o.cls = .type n) (hd:o.data = .fields vs)
    (hn:["enumerate","zip","dict_itemiterator","dict_reverseitemiterator","odict_iterator","itertools.zip_longest","itertools.pairwise"].contains n = false) (hQ:Q () s):wpAny M A (letOwnedTupleGo tg (.ref it) u) Q E s:=by
  unfold letOwnedTupleGo
  cases tg <;> first
    | exact wpAny_pure hQ
    | (cases u <;> first
        | exact wpAny_pure hQ
        | (refine wpAny_bind (wpAny_load ho ?_)
           rw [hc,hd]
           show wpAny M A (if (["enumerate","zip","dict_itemiterator","dict_reverseitemiterator","odict_iterator","itertools.zip_longest","itertools.pairwise"].contains n && vs[0]? == some (rawInt _)) = true then _ else _) Q E s
           rw [if_neg (by intro h; rw [hn,Bool.false_and] at h; cases h)]
           exact wpAny_pure hQ))
noncomputable def Itl (K:PySem.W.Frag) (a:Addr):It:=
  ⟨fun i H=>∃ xs x,SqL K H a xs ∧ xs[i]? = some x,fun i H x H'=>H' = H ∧ ∀ xs,SqL K H a xs → xs[i]? = some x,fun i H=>∃ xs,SqL K H a xs ∧ xs.length ≤ i⟩
noncomputable def Itr (lo:Int) (n:Nat):It:=⟨fun i _=>i < n,fun i H x H'=>H' = H ∧ x = .int (lo + i),fun i _=>n ≤ i⟩
theorem turn_list {P:Program} {w:World} {K:PySem.W.Frag} {tg:Expr} (a it:Addr):Turn P w K tg (Itl K a) [it] it (fun i h=>h.IsListIter it a i) where
  mem:=by simp
  obj:=fun i h st b hb=>by
    have e:b = it:=by simpa using hb
    subst e
    refine L2.o_EAA (st) fun o e c d=>?_
    exact ⟨o,e,fun v z=>by rw [d] at z; cases z⟩
  keep:=fun i h h' st k=>st.at fun o e=>k it (by simp) o e
  item:=by
    intro X hP hw hK hc i pins s σ H E I hf st hg
    subst hP hw hK
    refine L2.o_EEA (hg) fun xs x hq hx=>?_
    refine L2.o_EAA (I.list hq) fun its rv p hz=>?_
    refine L2.o_EA (rv.get hx) fun u hu ru=>?_
    refine L2.o_AAAAA (hf it (by simp)) fun f0 f1 f2 f3 f4 f5=>?_
    refine wpAny_pyNext_list_item st p.isList (x:=u) (by simpa using hu) fun h' st' sb=>?_
    have I1:Inv X pins σ H { s with heap:=h' }:=I.turned (t':=s.toks) (fun b o hb e=>(sb.2 b hb).trans e) f0 f1 f3 f4 f5
    refine L2.o_EAA (id st') fun o e c d=>?_
    exact ⟨u,rfl,go_of (s:={ s with heap:=h' }) e c d (by decide) ⟨x,H,I1,ru,⟨rfl,fun ys hy=>by rw [I.list_inj hy hq]; exact hx⟩,st',fun b hb=>(hf b hb).1⟩⟩
  done:=by
    intro X hP hw hK hc i pins s σ H E I hf st hg
    subst hP hw hK
    refine L2.o_EA (hg) fun xs hq hx=>?_
    refine L2.o_EAA (I.list hq) fun its rv p hz=>?_
    refine L2.o_AAAAA (hf it (by simp)) fun f0 f1 f2 f3 f4 f5=>?_
    have hl:=rv.length
    exact wpAny_pyNext_list_end (I.ok.hd hc) st p.isList (by simp; (clear f3 hz; omega)) fun h' eb=>⟨rfl,I.turned (t':=s.toks) (fun b o hb e=>eb b o hb e) f0 f1 f3 f4 f5⟩
  self:=fun _ _ _ _ _ st h=>wpAny_pyIter_listiter st h
theorem turn_range {P:Program} {w:World} {K:PySem.W.Frag} {tg:Expr} (it:Addr) (lo:Int) (n:Nat):Turn P w K tg (Itr lo n) [it] it (fun i h=>IsRangeIter h it (lo + (i:Nat) * 1) ((n:Int) - (i:Nat)) 1) where
  mem:=by simp
  obj:=fun i h st b hb=>by
    have e:b = it:=by simpa using hb
    subst e
    exact ⟨_,st,fun v z=>by
      have z':Data.fields _ = Data.cell v:=z
      cases z'⟩
  keep:=fun i h h' st k=>k it (by simp) _ st
  item:=by
    intro X hP hw hK hc i pins s σ H E I hf st hg
    subst hP hw hK
    refine L2.o_AAAAA (hf it (by simp)) fun f0 f1 f2 f3 f4 f5=>?_
    have W:=Walks.range (prog:=X.prog) (w:=X.w) (I.ok.hd hc) it lo 1 n
    refine W.item i s _ _ hg st fun v h' tk hv st' kk=>?_
    revert hv
    refine fun zqq=>L2.o_E zqq fun t zq1=>?_
    clear zqq
    subst zq1
    have I1:Inv X pins σ H { s with heap:=h',toks:=tk }:=I.turned (fun b o hb e=>kk b o (by simpa using hb) e) f0 f1 f3 f4 f5
    refine ⟨_,rfl,go_of (s:={ s with heap:=h',toks:=tk }) (n:="range_iterator") st' rfl rfl (by decide) ⟨.int (lo + i),H,I1,⟨t,?_⟩,⟨rfl,rfl⟩,st',fun b hb=>(hf b hb).1⟩⟩
    rw [Int.mul_one]
  done:=by
    intro X hP hw hK hc i pins s σ H E I hf st hg
    subst hP hw hK
    refine L2.o_AAAAA (hf it (by simp)) fun f0 f1 f2 f3 f4 f5=>?_
    exact wpAny_pyNext_range_end (I.ok.hd hc) st (by have:n ≤ i:=hg; (clear f3; omega)) fun h' eb=>⟨rfl,I.turned (t':=s.toks) (fun b o hb e=>eb b o hb e) f0 f1 f3 f4 f5⟩
  self:=fun _ _ _ _ _ st h=>wpAny_pyIter_rangeiter st h
end L2
namespace L2
open PySem PySem.Spec PyProof.Rows
section
variable {X:Cx} {tg:Expr}
noncomputable def iList (K:PySem.W.Frag) (tl:TE):TI:=fun σ H R=>tl σ H fun x H1=>∃ a,x = .ref a ∧ (∃ xs,SqL K H1 a xs) ∧ R (Itl K a) H1
theorem pi_list {l:Expr} {tl:TE} (hl:PE X l tl):PI X tg l (iList X.K tl):=by
  intro pins s σ H R I h
  refine thn (hl pins s σ H _ I h) fun v s1 zpat=>?_
  obtain ⟨x,H1,I1,r1,q1⟩:=zpat
  obtain ⟨a,e,⟨xs,hq⟩,q⟩:=q1
  subst e
  cases r1
  refine L2.o_EAA (I1.list hq) fun its rv p hz=>?_
  refine wpAny_pyIter_list p.isList ?_
  refine L2.i_EEEEEAAAAA (s1.heap.objs.size) ([s1.heap.objs.size]) (_) (_) (H1) (rfl) (I1.kept (t':=s1.toks) fun b o e=>Heap.get?_push_of_some _ e) (turn_list a _) (⟨_,Heap.get?_push_size _ rfl,rfl,rfl⟩) (fun b hb=>?_) (q)
  have e:b = s1.heap.objs.size:=by simpa using hb
  subst e
  exact I1.fpOk (Nat.le_refl _) (I1.hok.fresh (Nat.le_refl _))
theorem range_it {pins:List (Addr × Obj)} {σ:St} {H:Hp} {s:Shared} {R:It → Hp → Prop} {E:Value → Shared → Prop} {lo hi:Int} {t u v:Tok} {tk:Nat} (I:Inv X pins σ H s) (h1:-(2 ^ 62) ≤ lo) (h2:lo < 2 ^ 62) (h3:-(2 ^ 62) ≤ hi) (h4:hi < 2 ^ 62)
    (q:R (Itr lo (hi - lo).toNat) H):wpAny (model X.prog X.w) X.A (pyIter (.ref s.heap.objs.size)) (PIE X pins σ tg R) E { s with heap:=s.heap.push { cls:=.type "range",data:=.fields #[.int lo t,.int hi u,.int 1 v] },toks:=tk }:=by
  refine wpAny_pyIter_range (IsRange.new ..) (small_one h1 h2 h3 h4) ?_
  have I1:Inv X pins σ H { s with heap:=s.heap.push { cls:=.type "range",data:=.fields #[.int lo t,.int hi u,.int 1 v] },toks:=tk }:=I.kept fun b o e=>Heap.get?_push_of_some _ e
  refine ⟨(s.heap.push { cls:=.type "range",data:=.fields #[.int lo t,.int hi u,.int 1 v] }).objs.size,[(s.heap.push { cls:=.type "range",data:=.fields #[.int lo t,.int hi u,.int 1 v] }).objs.size],_,_,H,rfl,
    I1.kept (t':=tk) fun b o e=>Heap.get?_push_of_some _ e,turn_range _ lo (hi - lo).toNat,?_,fun b hb=>?_,q⟩
  · have e1:lo + ((0:Nat):Int) * 1 = lo:=by simp
    have e2:(((hi - lo).toNat:Nat):Int) - ((0:Nat):Int) = Builtin.Range.rangeSize lo hi 1:=by rw [rangeSize_one]; split <;> (clear e1 h4 h3 h2 h1; omega)
    show IsRangeIter _ _ (lo + ((0:Nat):Int) * 1) ((((hi - lo).toNat:Nat):Int) - ((0:Nat):Int)) 1
    rw [e1,e2]
    exact Heap.get?_push_size _ rfl
  · have e:b = (s.heap.push { cls:=.type "range",data:=.fields #[.int lo t,.int hi u,.int 1 v] }).objs.size:=by simpa using hb
    subst e
    exact I1.fpOk (Nat.le_refl _) (I1.hok.fresh (Nat.le_refl _))
noncomputable def iRng1 (ta:TA):TI:=fun σ H R=>ta σ H fun vs H1=>∃ j:Int,vs = [.int j] ∧ -(2 ^ 62) ≤ j ∧ j < 2 ^ 62 ∧ R (Itr 0 j.toNat) H1
theorem pi_range1 {a:Expr} {ta:TA} {p pos:Pos} (hg:Gl X "range") (hm:X.mg "range" = none) (ha:PA X [a] ta) (hs:autoParam (starEach [a] X.env = [(false,eval a X.env)]) L2.ar._auto_1):PI X tg (.Call (.Name "range" p) [a] [] pos) (iRng1 ta):=by
  intro pins s σ H R I h
  refine Call_ (ld_blt I hg hm boot_range (PyProof.Rows.callWith_type1 (thn (ha pos pins s σ H _ I h) fun us s1 ⟨vs,H1,I1,r1,q1⟩=>?_) hs rfl))
  revert q1
  refine fun zqq=>L2.o_EAAA zqq fun j e q1 q2 q=>?_
  clear zqq
  subst e
  cases r1 with
  | cons r rr=>
    cases rr
    revert r
    refine fun zqq=>L2.o_E zqq fun t zq1=>?_
    clear zqq
    subst zq1
    exact call_range_1 (range_it I1 (by (clear q2 q1; omega)) (by (clear q2 q1; omega)) q1 q2 (by simpa using q))
noncomputable def tFor (wi:TI) (g:TG) (tb:TS):TS:=fun D σ H=>wi σ H fun J H1=>∃ W:Nat → Nat → St → Hp → Prop,(∃ m,W 0 m σ H1) ∧ ∀ i m σ H,W i m σ H →
  (J.stop i H ∧ D.nx σ H) ∨ (J.go i H ∧ ∃ N:St → Hp → Prop,(∀ σ' H',N σ' H' → ∃ m',m' < m ∧ W (i + 1) m' σ' H') ∧ ∀ x H',J.yld i H x H' → g x σ H' fun σ2 H2=>tb { D with nx:=N,ct:=N,bk:=D.nx } σ2 H2)
noncomputable def pinsAt (fp:List Addr) (h:Heap):List (Addr × Obj):=fp.filterMap fun b=>(h.get? b).map fun o=>(b,o)
theorem mem_pinsAt {fp:List Addr} {h:Heap} {b:Addr} {o:Obj} (hb:b ∈ fp) (e:h.get? b = some o):(b,o) ∈ pinsAt fp h:=List.mem_filterMap.mpr ⟨b,hb,by rw [e]; rfl⟩
theorem of_pinsAt {fp:List Addr} {h:Heap} {p:Addr × Obj} (hp:p ∈ pinsAt fp h):p.1 ∈ fp ∧ h.get? p.1 = some p.2:=by
  refine L2.o_EA (List.mem_filterMap.mp hp) fun b hb e=>?_
  cases q:h.get? b with
  | none=>rw [q] at e; cases e
  | some o=>
    rw [q] at e
    have e':(b,o) = p:=Option.some.inj e
    subst e'
    exact ⟨hb,q⟩
theorem Inv.pinned {pins:List (Addr × Obj)} {σ:St} {H:Hp} {s:Shared} {fp:List Addr} (I:Inv X pins σ H s) (hf:∀ b ∈ fp,FpOk X pins H b) (ho:∀ b ∈ fp,∃ o,s.heap.get? b = some o ∧ ∀ v,o.data ≠ .cell v):Inv X (pins ++ pinsAt fp s.heap) σ H s:=
  I.pins_of fun p hp=>(List.mem_append.mp hp).elim (fun z=>I.pin p (List.mem_append_right _ z)) fun z=>by
    refine L2.o_A (of_pinsAt z) fun hb e=>?_
    refine L2.o_AAA (hf p.1 hb) fun f0 f1 f2 _=>?_
    refine L2.o_EA (ho p.1 hb) fun o e' d=>?_
    rw [e] at e'; cases e'
    exact ⟨e,f0,f1,f2,d⟩
theorem Inv.unpinned {pins pl:List (Addr × Obj)} {σ:St} {H:Hp} {s:Shared} (I:Inv X (pins ++ pl) σ H s):Inv X pins σ H s:=I.pins_of fun p hp=>I.pin p (List.mem_append_right _ (List.mem_append_left _ hp))
theorem ps_for {iter:Expr} {body:List Stmt} {wi:TI} {g:TG} {tb:TS} {pos:Pos} (hp:PassesOwn (model X.prog X.w) X.A X.env X.xe) (hc:X.calm = true) (hi:PI X tg iter wi) (hg:PG X tg g) (hb:PSs X body tb)
    (hs:∀ x,foldedSetIterable iter X.env x = pure x:=by intro _; rfl):PS X (.For tg iter body [] pos) (tFor wi g tb):=by
  intro pins s σ H D I h
  refine wpAny_For (thn (hi pins s σ H _ I h) fun v s1 h1=>thn h1 fun itv s2 h2=>?_) hs
  obtain ⟨it,fp,tn,J,H2,e,I2,T,st2,f2,W,⟨m0,w0⟩,turn⟩:=h2
  subst e
  have stat:∀ {H':Hp},(∀ b ∈ fp,H' b = none) → ∀ b ∈ fp,FpOk X pins H' b:=fun hn b hb=>⟨hn b hb,(f2 b hb).2⟩
  refine codeAny_forLoop_any (fun n s'=>∃ i σ' H',Inv X pins σ' H' s' ∧ tn i s'.heap ∧ (∀ b ∈ fp,H' b = none) ∧ W i n σ' H') ?_ m0 ⟨0,σ,H2,I2,st2,fun b hb=>(f2 b hb).1,w0⟩
  rintro n s3 ⟨i,σ3,H3,I3,st3,fr3,w3⟩
  rcases turn i n σ3 H3 w3 with ⟨stop,qn⟩ | ⟨go,N,hN,step⟩
  · refine wpAny_passesOwn hp (thn (T.done X rfl rfl rfl hc i pins s3 σ3 H3 X.xe I3 (stat fr3) st3 stop) fun r s4 zpat=>?_)
    refine L2.o_A (zpat) fun hr I4=>?_
    subst hr
    exact wpAny_execs_nil ⟨σ3,H3,I4,qn⟩
  · refine wpAny_passesOwn hp (thn (T.item X rfl rfl rfl hc i pins s3 σ3 H3 X.xe I3 (stat fr3) st3 go) fun r s4 zpat=>?_)
    refine L2.o_EA (zpat) fun u hr h4=>?_
    subst hr
    refine wpAny_passesOwn hp (thn h4 fun _ s5 zpat=>?_)
    refine L2.o_EEAAAA (zpat) fun x H5 I5 r5 y5 st5 fr5=>?_
    have I5':=I5.pinned (stat fr5) (T.obj _ _ st5)
    refine wpAny_passesOwn hp (thn (hg _ s5 σ3 H5 x u _ I5' r5 (step x H5 y5)) fun _ s6 zpat=>?_)
    refine L2.o_EEA (zpat) fun σ6 H6 I6 q6=>?_
    refine wpAny_passesOwn hp (thn (hb _ s6 σ6 H6 _ I6 q6) fun f s7 q7=>?_)
    have again:∀ {σ7:St} {H7:Hp},Inv X (pins ++ pinsAt fp s5.heap) σ7 H7 s7 → N σ7 H7 → ∃ m,m < n ∧ ∃ i σ' H',Inv X pins σ' H' s7 ∧ tn i s7.heap ∧ (∀ b ∈ fp,H' b = none) ∧ W i m σ' H':=fun {σ7 H7} I7 n7=>by
      refine L2.o_EA (hN σ7 H7 n7) fun m' hm w7=>?_
      refine L2.i_EAEEEAAA (m') (hm) (i + 1) (σ7) (H7) (I7.unpinned) (T.keep _ _ _ st5 fun b hb o e=>(I7.pin (b,o) (List.mem_append_right _ (List.mem_append_right _ (mem_pinsAt hb e)))).1) (fun b hb=>?_) (w7)
      refine L2.o_EA (T.obj _ _ st5 b hb) fun o e d=>?_
      exact (I7.pin (b,o) (List.mem_append_right _ (List.mem_append_right _ (mem_pinsAt hb e)))).2.1
    cases f with
    | next=>obtain ⟨σ7,H7,I7,n7⟩:=q7; exact again I7 n7
    | cont=>obtain ⟨σ7,H7,I7,n7⟩:=q7; exact again I7 n7
    | brk=>obtain ⟨σ7,H7,I7,q7⟩:=q7; exact ⟨σ7,H7,I7.unpinned,q7⟩
    | ret v=>obtain ⟨x7,σ7,H7,I7,r7,q7⟩:=q7; exact ⟨x7,σ7,H7,I7.unpinned,r7,q7⟩
end
end L2
namespace L2
open PySem PySem.Spec PyProof.Rows
noncomputable abbrev R2:=V → V → Hp → VK → Prop
noncomputable def OpR (X:Cx) (f:Value → Value → Sem Value) (r:R2):Prop:=
  ∀ (pins:List (Addr × Obj)) (s:Shared) (σ:St) (H:Hp) (x y:V) (v u:Value) (Q:VK),Inv X pins σ H s → RelV x v → RelV y u → r x y H Q →
    wpAny (model X.prog X.w) X.A (f v u) (EP X pins σ Q) X.xe s
noncomputable def UnR (X:Cx) (f:Value → Sem Value) (r:V → Hp → VK → Prop):Prop:=
  ∀ (pins:List (Addr × Obj)) (s:Shared) (σ:St) (H:Hp) (x:V) (v:Value) (Q:VK),Inv X pins σ H s → RelV x v → r x H Q →
    wpAny (model X.prog X.w) X.A (f v) (EP X pins σ Q) X.xe s
noncomputable def CallR (X:Cx) (f:Value) (r:List V → Hp → VK → Prop):Prop:=
  ∀ (pins:List (Addr × Obj)) (s:Shared) (σ:St) (H:Hp) (xs:List V) (us:List Value) (Q:VK),Inv X pins σ H s → Vals xs us → r xs H Q →
    wpAny (model X.prog X.w) X.A (call f us) (EP X pins σ Q) X.xe s
noncomputable def tOp (r:R2) (ta tb:TE):TE:=fun σ H Q=>ta σ H fun x H1=>tb σ H1 fun y H2=>r x y H2 Q
noncomputable def tUn (r:V → Hp → VK → Prop) (ta:TE):TE:=fun σ H Q=>ta σ H fun x H1=>r x H1 Q
noncomputable def rI (C:Int → Int → Prop) (g:Int → Int → V):R2:=fun x y H Q=>∃ i j,x = .int i ∧ y = .int j ∧ C i j ∧ Q (g i j) H
noncomputable def rI0 (g:Int → Int → V):R2:=fun x y H Q=>∃ i j,x = .int i ∧ y = .int j ∧ Q (g i j) H
noncomputable def rU (g:Int → V):V → Hp → VK → Prop:=fun x H Q=>∃ i,x = .int i ∧ Q (g i) H
section
variable {X:Cx} {a b c:Expr} {ta tb tc:TE} {pos:Pos}
theorem binT (ha:PE X a ta) (hb:PE X b tb) {pins:List (Addr × Obj)} {s:Shared} {σ:St} {H:Hp} {R:V → V → Hp → Prop} (I:Inv X pins σ H s)
    (h:ta σ H fun x H1=>tb σ H1 fun y H2=>R x y H2) {Q:Value → Shared → Prop} {f:Value → Value → Sem Value}
    (hf:∀ v u s2 x y H2,Inv X pins σ H2 s2 → RelV x v → RelV y u → R x y H2 → wpAny (model X.prog X.w) X.A (f v u) Q X.xe s2) :
    wpAny (model X.prog X.w) X.A (eval a X.env) (fun v s₁=>wpAny (model X.prog X.w) X.A (eval b X.env) (fun u s₂=>wpAny (model X.prog X.w) X.A (f v u) Q X.xe s₂) X.xe s₁) X.xe s:=by
  refine thn (ha pins s σ H _ I h) fun v s1 zpat=>?_
  obtain ⟨x,H1,I1,r1,q1⟩:=zpat
  refine thn (hb pins s1 σ H1 _ I1 q1) fun u s2 zpat=>?_
  obtain ⟨y,H2,I2,r2,q2⟩:=zpat
  exact hf v u s2 x y H2 I2 r1 r2 q2
theorem pe_op {op:Operator} {r:R2} (ho:OpR X (binaryOp op) r) (ha:PE X a ta) (hb:PE X b tb):PE X (.BinOp a op b pos) (tOp r ta tb):=by
  intro pins s σ H Q I h
  exact wpAny_BinOp (binT ha hb I h fun v u s2 x y H2 I2 rx ry q=>ho pins s2 σ H2 x y v u Q I2 rx ry q)
theorem pe_un {op:UnaryOp} {r:V → Hp → VK → Prop} (ho:UnR X (unaryOp op) r) (ha:PE X a ta):PE X (.UnaryOp op a pos) (tUn r ta):=by
  intro pins s σ H Q I h
  exact UnaryOp_ (thn (ha pins s σ H _ I h) fun v s1 ⟨x,H1,I1,r1,q1⟩=>ho pins s1 σ H1 x v Q I1 r1 q1)
theorem opI {f:Value → Value → Sem Value} {C:Int → Int → Prop} {g:Int → Int → Int}
    (rule:∀ (i j:Int) (t u:Tok) (s:Shared) (Q:Value → Shared → Prop) (E:Value → Shared → Prop),C i j → Q (.int (g i j) s.toks) { s with toks:=s.toks + 1 } → wpAny (model X.prog X.w) X.A (f (.int i t) (.int j u)) Q E s) :
    OpR X f (rI C fun i j=>.int (g i j)):=by
  intro pins s σ H x y v u Q I rx ry h
  revert h
  refine fun zqq=>L2.o_EEAAA zqq fun i j zq2 zq3 hc q=>?_
  clear zqq
  subst zq2
  subst zq3
  revert rx
  refine fun zqq=>L2.o_E zqq fun t zq1=>?_
  clear zqq
  subst zq1
  revert ry
  refine fun zqq=>L2.o_E zqq fun t' zq1=>?_
  clear zqq
  subst zq1
  exact rule i j t t' s _ _ hc ⟨.int (g i j),H,I.tok _,⟨_,rfl⟩,q⟩
theorem opI0 {f:Value → Value → Sem Value} {g:Int → Int → Int}
    (rule:∀ (i j:Int) (t u:Tok) (s:Shared) (Q:Value → Shared → Prop) (E:Value → Shared → Prop),Q (.int (g i j) s.toks) { s with toks:=s.toks + 1 } → wpAny (model X.prog X.w) X.A (f (.int i t) (.int j u)) Q E s) :
    OpR X f (rI0 fun i j=>.int (g i j)):=by
  intro pins s σ H x y v u Q I rx ry h
  revert h
  refine fun zqq=>L2.o_EEAA zqq fun i j zq2 zq3 q=>?_
  clear zqq
  subst zq2
  subst zq3
  revert rx
  refine fun zqq=>L2.o_E zqq fun t zq1=>?_
  clear zqq
  subst zq1
  revert ry
  refine fun zqq=>L2.o_E zqq fun t' zq1=>?_
  clear zqq
  subst zq1
  exact rule i j t t' s _ _ ⟨.int (g i j),H,I.tok _,⟨_,rfl⟩,q⟩
theorem opB0 {f:Value → Value → Sem Value} {g:Int → Int → Bool}
    (rule:∀ (i j:Int) (t u:Tok) (s:Shared) (Q:Value → Shared → Prop) (E:Value → Shared → Prop),Q (.bool (g i j)) s → wpAny (model X.prog X.w) X.A (f (.int i t) (.int j u)) Q E s) :
    OpR X f (rI0 fun i j=>.bl (g i j)):=by
  intro pins s σ H x y v u Q I rx ry h
  revert h
  refine fun zqq=>L2.o_EEAA zqq fun i j zq2 zq3 q=>?_
  clear zqq
  subst zq2
  subst zq3
  revert rx
  refine fun zqq=>L2.o_E zqq fun t zq1=>?_
  clear zqq
  subst zq1
  revert ry
  refine fun zqq=>L2.o_E zqq fun t' zq1=>?_
  clear zqq
  subst zq1
  exact rule i j t t' s _ _ ⟨.bl (g i j),H,I,rfl,q⟩
noncomputable def CPow (i j:Int):Prop:=0 ≤ j ∧ j ≤ 1000000 ∧ i.natAbs < 2 ^ 64
noncomputable def CMul (i j:Int):Prop:=(-(2 ^ 64) < i ∧ i < 2 ^ 64) ∨ (-(2 ^ 64) < j ∧ j < 2 ^ 64)
theorem CMul.ok {i j:Int} (h:CMul i j):IntMulOk i j:=by
  rcases h with ⟨h1,h2⟩ | ⟨h1,h2⟩
  · exact .of_left (intBits_le_64 h1 h2)
  · exact .of_right (intBits_le_64 h1 h2)
theorem op_add:OpR X (binaryOp .Add) (rI0 fun i j=>.int (i + j)):=opI0 fun _ _ _ _ _ _ _ q=>add_int q
theorem op_sub:OpR X (binaryOp .Sub) (rI0 fun i j=>.int (i - j)):=opI0 fun _ _ _ _ _ _ _ q=>sub_int q
theorem op_modN:OpR X (binaryOp .Mod) (rI (fun _ j=>j ≠ 0) fun i j=>.int (i.fmod j)):=opI fun _ _ _ _ _ _ _ hc q=>mod_int' hc q
theorem op_pow:OpR X (binaryOp .Pow) (rI CPow fun i j=>.int (i ^ j.toNat)):=opI fun _ _ _ _ _ _ _ hc q=>pow_int_small hc.1 hc.2.1 hc.2.2 q
theorem unI {f:Value → Sem Value} {g:Int → Int}
    (rule:∀ (i:Int) (t:Tok) (s:Shared) (Q:Value → Shared → Prop) (E:Value → Shared → Prop),Q (.int (g i) s.toks) { s with toks:=s.toks + 1 } → wpAny (model X.prog X.w) X.A (f (.int i t)) Q E s) :
    UnR X f (rU fun i=>.int (g i)):=by
  intro pins s σ H x v Q I rx h
  revert h
  refine fun zqq=>L2.o_EA zqq fun i zq1 q=>?_
  clear zqq
  subst zq1
  revert rx
  refine fun zqq=>L2.o_E zqq fun t zq1=>?_
  clear zqq
  subst zq1
  exact rule i t s _ _ ⟨.int (g i),H,I.tok _,⟨_,rfl⟩,q⟩
theorem un_neg:UnR X (unaryOp .USub) (rU fun i=>.int (-i)):=unI fun _ _ _ _ _ q=>neg_int q
end
section
variable {X:Cx} {a b c:Expr} {ta tb tc:TE} {pos:Pos}
theorem fin_bl {pins:List (Addr × Obj)} {σ:St} {H:Hp} {s:Shared} {Q:VK} {k k':Bool} (I:Inv X pins σ H s) (q:Q (.bl k) H) (e:k = k'):EP X pins σ Q (.bool k') s:=by
  subst e
  exact ⟨.bl k,H,I,rfl,q⟩
theorem op_lt:OpR X (compareOp .Lt) (rI0 fun i j=>.bl (decide (i < j))):=opB0 fun _ _ _ _ _ _ _ q=>lt_int q
theorem op_gt:OpR X (compareOp .Gt) (rI0 fun i j=>.bl (decide (j < i))):=opB0 fun _ _ _ _ _ _ _ q=>gt_int q
theorem op_ge:OpR X (compareOp .GtE) (rI0 fun i j=>.bl (decide (j ≤ i))):=opB0 fun _ _ _ _ _ _ _ q=>ge_int q
theorem OpR.or {f:Value → Value → Sem Value} {r r':R2} (h:OpR X f r) (h':OpR X f r'):OpR X f (fun x y H Q=>r x y H Q ∨ r' x y H Q):=by
  intro pins s σ H x y v u Q I rx ry q
  rcases q with q | q
  · exact h pins s σ H x y v u Q I rx ry q
  · exact h' pins s σ H x y v u Q I rx ry q
theorem nomark (b:Expr) {op:CmpOp} (h:autoParam (op ≠ .In) L2.ad._auto_1) (h2:autoParam (op ≠ .NotIn) L2.ad._auto_1):behindInMarks op b = false:=by
  have e1:(op == CmpOp.In) = false:=by cases op <;> first | rfl | exact absurd rfl h
  have e2:(op == CmpOp.NotIn) = false:=by cases op <;> first | rfl | exact absurd rfl h2
  cases b <;> simp [behindInMarks,e1,e2]
theorem pe_cmpR {op:CmpOp} {r:R2} (ho:OpR X (compareOp op) r) (ha:PE X a ta) (hb:PE X b tb) (hm:behindInMarks op b = false):PE X (.Compare a [op] [b] pos) (tOp r ta tb):=by
  intro pins s σ H Q I h
  exact wpAny_Compare1 (binT ha hb I h fun v u s2 x y H2 I2 rx ry q=>ho pins s2 σ H2 x y v u Q I2 rx ry q) hm
noncomputable def tTest (t:TE):TT:=fun σ H Q=>t σ H fun x H'=>∃ k,x = .bl k ∧ Q k H'
theorem pt_cmpR {op:CmpOp} {r:R2} (ho:OpR X (compareOp op) r) (ha:PE X a ta) (hb:PE X b tb) (hm:behindInMarks op b = false):PT X (.Compare a [op] [b] pos) (tTest (tOp r ta tb)):=by
  intro pins s σ H Q I h
  refine wpAny_isTrue_Compare1 (thn (ha pins s σ H _ I h) fun v s1 ⟨x,H1,I1,r1,q1⟩=>thn (hb pins s1 σ H1 _ I1 q1) fun u s2 ⟨y,H2,I2,r2,q2⟩=>
    thn (ho pins s2 σ H2 x y v u _ I2 r1 r2 q2) fun c s3 ⟨z,H3,I3,r3,k,e,q3⟩=>?_) hm
  subst e
  cases r3
  exact wpAny_truthy_bool ⟨H3,I3,q3⟩
theorem line63:(sizeLine:Nat) < 2 ^ 63:=by rw [sizeLine_eq]; decide
theorem vals1 {x:V} {us:List Value} (r:Vals [x] us):∃ u,us = [u] ∧ RelV x u:=by
  cases r with
  | cons r1 r2=>cases r2; exact ⟨_,rfl,r1⟩
theorem vals2 {x y:V} {us:List Value} (r:Vals [x,y] us):∃ u w',us = [u,w'] ∧ RelV x u ∧ RelV y w':=by
  cases r with
  | cons r1 r2=>
    cases r2 with
    | cons r3 r4=>cases r4; exact ⟨_,_,rfl,r1,r3⟩
theorem call_abs:CallR X (.builtin "abs") (fun xs H Q=>∃ i,xs = [.int i] ∧ Q (.int (if i < 0 then -i else i)) H):=by
  intro pins s σ H xs us Q I r h
  revert h
  refine fun zqq=>L2.o_EA zqq fun i zq1 q=>?_
  clear zqq
  subst zq1
  refine L2.o_EAE (vals1 r) fun u zq1 t zq3=>?_
  subst zq1
  subst zq3
  exact call_abs_int fun u tk=>⟨.int (if i < 0 then -i else i),H,I.tok _,⟨_,rfl⟩,q⟩
theorem call_max2 (hc:X.calm = true):CallR X (.builtin "max") (fun xs H Q=>∃ i j,xs = [.int i,.int j] ∧ Q (.int (if j > i then j else i)) H):=by
  intro pins s σ H xs us Q I r h
  revert h
  refine fun zqq=>L2.o_EEA zqq fun i j zq2 q=>?_
  clear zqq
  subst zq2
  obtain ⟨u,w',rfl,⟨t,rfl⟩,⟨t',rfl⟩⟩:=vals2 r
  refine max_two_ints (I.ok.hd hc) fun h' tk k=>⟨_,H,I.kept k,?_,q⟩
  by_cases hj:j > i
  · rw [if_pos hj,if_pos hj]; exact ⟨_,rfl⟩
  · rw [if_neg hj,if_neg hj]; exact ⟨_,rfl⟩
theorem call_min2 (hc:X.calm = true):CallR X (.builtin "min") (fun xs H Q=>∃ i j,xs = [.int i,.int j] ∧ Q (.int (if j < i then j else i)) H):=by
  intro pins s σ H xs us Q I r h
  revert h
  refine fun zqq=>L2.o_EEA zqq fun i j zq2 q=>?_
  clear zqq
  subst zq2
  obtain ⟨u,w',rfl,⟨t,rfl⟩,⟨t',rfl⟩⟩:=vals2 r
  refine min_two_ints (I.ok.hd hc) fun h' tk k=>⟨_,H,I.kept k,?_,q⟩
  by_cases hj:j < i
  · rw [if_pos hj,if_pos hj]; exact ⟨_,rfl⟩
  · rw [if_neg hj,if_neg hj]; exact ⟨_,rfl⟩
theorem call_int1:CallR X (.type "int") (fun xs H Q=>(∃ i,xs = [.int i] ∧ Q (.int i) H) ∨ ∃ k,xs = [.bl k] ∧ Q (.int (if k then 1 else 0)) H):=by
  intro pins s σ H xs us Q I r h
  rcases h with ⟨i,rfl,q⟩ | ⟨k,rfl,q⟩
  · refine L2.o_EAE (vals1 r) fun u zq1 t zq3=>?_
    subst zq1
    subst zq3
    exact call_int_int ⟨.int i,H,I,⟨_,rfl⟩,q⟩
  · refine L2.o_EA (vals1 r) fun u zq1 r1=>?_
    subst zq1
    cases r1
    exact call_int_bool ⟨.int (if k then 1 else 0),H,I.tok _,⟨_,rfl⟩,q⟩
end
end L2
namespace L2
open PySem PySem.Spec PyProof.Rows
structure ObjM (h:Heap) (x dx C:Addr) (mA:Str → Option Value):Prop where
  obj:h.get? x = some (PySem.W.instObj C dx)
  ns:h.Ns1 dx mA
  ne:dx ≠ x
theorem lookIn_ns {h:Heap} {dx:Addr} {mA:Str → Option Value} (n:h.Ns1 dx mA):∃ od,h.get? dx = some od ∧ ∀ name,PySem.W.lookIn name od = some (mA name):=by
  refine L2.o_EEEAAAA (n) fun o es ep ho hd hk _ hm=>?_
  refine ⟨o,ho,fun name=>?_⟩
  have e:=hm name
  unfold nsFind findBy at e
  rw [← Array.find?_toList] at e
  unfold PySem.W.lookIn
  rw [hd]
  dsimp only
  split
  · rename_i y q
    rw [q] at e
    exact congrArg some e
  · rename_i q
    rw [q] at e
    have a:es.toList.any (·.refKey) = false:=by
      rw [List.any_eq_false]
      intro y hy
      refine L2.o_EE (hk y (Array.mem_toList_iff.mp hy)) fun z t hkey=>?_
      simp [DictEntry.refKey,hkey]
    have a':¬ es.toList.any (·.refKey) = true:=by rw [a]; exact Bool.false_ne_true
    rw [if_neg a']
    exact congrArg some e
theorem ObjM.look {h:Heap} {x dx C:Addr} {mA:Str → Option Value} (I:ObjM h x dx C mA):∃ od,PySem.W.InstAt h x (PySem.W.instObj C dx) C (some od) ∧ ∀ name,PySem.W.lookIn name od = some (mA name):=
  let ⟨od,ho,hl⟩:=lookIn_ns I.ns
  ⟨od,⟨I.obj,rfl,rfl,ho⟩,hl⟩
section
variable {prog:Program} {w:World} {A:Around} {E:Value → Shared → Prop} {s:Shared} {K:PySem.W.Frag} {x dx C f:Addr} {mA:Str → Option Value} {name:Str} {v:Value}
theorem get_map {expr:Bool} {Q:Value → Shared → Prop} (X:K.In s.heap) (I:ObjM s.heap x dx C mA) (hg:PySem.W.plainGet K C name = true) (hh:PySem.W.hasDictIn K C = true)
    (ha:PySem.W.findIn K (.ref C) name = some none) (hv:mA name = some v) (hv':PySem.W.handedIn v = true) (h:Q v { s with toks:=s.toks + 1 }) :
    wpAny (model prog w) A (getAttr (.ref x) name expr) Q E s:=by
  refine L2.o_EA (I.look) fun od J hl=>?_
  exact PySem.W.get_value X J (PySem.W.plainGet_of hg).1 (PySem.W.findObj_own hh ha rfl (by rw [hl,hv])) hv' h
theorem get_meth {pl:Sem Bool} {Q:Value × List Value → Shared → Prop} (X:K.In s.heap) (I:ObjM s.heap x dx C mA) (hg:PySem.W.plainGet K C name = true)
    (hf:PySem.W.findIn K (.ref C) name = some (some (.ref f))) (ht:PySem.W.isFn K (.ref f) = true) (hv:mA name = none) (h:Q (.ref f,[.ref x]) s) :
    wpAny (model prog w) A (getMethod (.ref x) name pl) Q E s:=by
  refine L2.o_EA (I.look) fun od J hl=>?_
  exact PySem.W.method_fn X J (PySem.W.plainGet_of hg).1 (PySem.W.plainGet_of hg).2 hf (beq_iff_eq.mp ht) (by show (PySem.W.lookIn name od).map (·.isSome) = some false; rw [hl,hv]; rfl) h
theorem set_map {ns:List Str} {Q:Unit → Shared → Prop} (X:K.In s.heap) (I:ObjM s.heap x dx C mA)
    (hs:PySem.W.findIn K (.ref C) "__setattr__" = some (some (.builtin "object.__setattr__"))) (hp:PySem.W.plainOver K C = true) (ht:PySem.W.takerIn K C name = some none) (hh:PySem.W.hasDictIn K C = true)
    (hw:PySem.Within mA ns) (hsz:ns.length ≤ sizeLine)
    (h:∀ h',ObjM h' x dx C (fun y=>if y = name then some v else mA y) → Heap.SameBut dx s.heap h' → Q () { s with heap:=h',toks:=s.toks + 2 }) :
    wpAny (model prog w) A (setAttr (.ref x) name v) Q E s:=by
  refine L2.o_EA (I.look) fun od J hl=>?_
  refine PySem.W.set_plain X J hs (PySem.W.osa_open (s:={ s with toks:=s.toks + 1 }) (r:=none) X J hp ht fun b=>?_)
  refine L2.o_EA (PySem.W.any_some hh) fun cd hc hd'=>?_
  have hx:s.heap.get? x = some ⟨.ref C,some dx,.plain,#[]⟩:=I.obj
  refine wpAny_bind (wpAny_pure (wpAny_bind (wpAny_bind (wpAny_loadPart hx (wpAny_bind (PySem.W.Looks.here (s:={ s with toks:=s.toks + 1 }) (PySem.W.looks_clsIn X hc) ?_))))))
  rw [hd']
  refine wpAny_pure (a:=some dx) (wpAny_bind (wpAny_pure (wpAny_bind ?_)))
  refine wpAny_nsSet1 (s:={ s with toks:=s.toks + 1 }) I.ns fun h' hn2 hs2=>?_
  refine L2.o_EEEAA (hn2.count (PySem.Within.cons name v hw)) fun oD esD epD hoD hdD hcD=>?_
  refine wpAny_bind (wpAny_lookBehind hoD (by rw [hdD]; exact pastItsLine_dict (Nat.le_trans hcD (by rw [List.length_cons]; (clear hcD; omega)))) ?_)
  exact wpAny_pure (h _ ⟨(hs2.2 _ (Ne.symm I.ne)).trans I.obj,hn2,I.ne⟩ hs2)
theorem make_map {R:Result → Shared → Prop} {vs:List Value} {kw:List (Str × Value)} (X:K.In s.heap) (hm:PySem.W.makesIn K C = true)
    (hi:PySem.W.findIn K (.ref C) "__init__" = some (some (.ref f))) (hf:PySem.W.typeIn K (.ref f) = some (.type "function"))
    (h:codeAny (model prog w) (A.under (.builtin "type.__call__" ⟨.ref C :: vs,kw⟩)) (.call (.ref f) ⟨.ref (s.heap.objs.size + 1) :: vs,kw⟩) (PySem.W.InitBack (s.heap.objs.size + 1) R)
      { s with heap:=(s.heap.push PySem.W.emptyDict).push (PySem.W.instObj C s.heap.objs.size) }) :
    codeAny (model prog w) A (.call (.ref C) ⟨vs,kw⟩) R s:=by
  obtain ⟨hh,g,d,t,os⟩:=s
  exact PySem.W.make_core (PySem.W.makes_of X hm) (PySem.W.looks_findIn X hi) (fun self=>PySem.W.bind_fn X self hf) (.inl rfl) h
end
noncomputable def putF (f:Str) (v:V):List (Str × V) → List (Str × V)
  | []=>[(f,v)]
  | (g,x) :: r=>if g = f then (g,v) :: r else (g,x) :: putF f v r
theorem lookup_putF (f g:Str) (v:V):∀ fs:List (Str × V),(putF f v fs).lookup g = if g = f then some v else fs.lookup g
  | []=>by
    show List.lookup g [(f,v)] = _
    by_cases h:g = f
    · have hb:(g == f) = true:=beq_iff_eq.mpr h
      simp only [List.lookup,hb,if_pos h]
    · have hb:(g == f) = false:=beq_eq_false_iff_ne.mpr h
      simp only [List.lookup,hb,if_neg h]
  | (k,x) :: r=>by
    have ih:=lookup_putF f g v r
    rw [show putF f v ((k,x) :: r) = (if k = f then (k,v) :: r else (k,x) :: putF f v r) from rfl]
    by_cases hk:k = f
    · rw [if_pos hk]
      by_cases h:g = k
      · have hb:(g == k) = true:=beq_iff_eq.mpr h
        simp only [List.lookup,hb,if_pos (h.trans hk)]
      · have hb:(g == k) = false:=beq_eq_false_iff_ne.mpr h
        simp only [List.lookup,hb,if_neg (fun e:g = f=>h (e.trans hk.symm))]
    · rw [if_neg hk]
      by_cases h:g = k
      · have hb:(g == k) = true:=beq_iff_eq.mpr h
        simp only [List.lookup,hb,if_neg (fun e:g = f=>hk (h.symm.trans e))]
      · have hb:(g == k) = false:=beq_eq_false_iff_ne.mpr h
        simp only [List.lookup,hb]
        exact ih
theorem keys_putF (f:Str) (v:V):∀ fs:List (Str × V),f ∈ (putF f v fs).map (·.1) ∧ ∀ g,g ∈ fs.map (·.1) → g ∈ (putF f v fs).map (·.1)
  | []=>⟨by simp [putF],fun g h=>by simp at h⟩
  | (k,x) :: r=>by
    refine L2.o_A (keys_putF f v r) fun i1 i2=>?_
    rw [show putF f v ((k,x) :: r) = (if k = f then (k,v) :: r else (k,x) :: putF f v r) from rfl]
    by_cases hk:k = f
    · rw [if_pos hk]
      subst hk
      exact ⟨by simp,fun g h=>by simpa using h⟩
    · rw [if_neg hk]
      refine ⟨?_,fun g h=>?_⟩
      · rw [List.map_cons]
        exact List.mem_cons_of_mem _ i1
      · rw [List.map_cons] at h ⊢
        rcases List.mem_cons.mp h with e | e
        · exact List.mem_cons.mpr (.inl e)
        · exact List.mem_cons_of_mem _ (i2 g e)
theorem length_putF (f:Str) (v:V):∀ fs:List (Str × V),(putF f v fs).length ≤ fs.length + 1
  | []=>by simp [putF]
  | (k,x) :: r=>by
    have ih:=length_putF f v r
    rw [show putF f v ((k,x) :: r) = (if k = f then (k,v) :: r else (k,x) :: putF f v r) from rfl]
    by_cases hk:k = f
    · rw [if_pos hk,List.length_cons,List.length_cons]; (clear ih; omega)
    · rw [if_neg hk,List.length_cons,List.length_cons]; omega
theorem RelO.some_of {v:V} {o:Option Value} (r:RelO (some v) o):∃ u,o = some u ∧ RelV v u:=by
  cases o with
  | none=>exact (show False from r).elim
  | some u=>exact ⟨u,rfl,r⟩
theorem RelO.none_of {o:Option Value} (r:RelO none o):o = none:=by
  cases o with
  | none=>rfl
  | some u=>exact (show False from r).elim
theorem handed_of {v:V} {u:Value} (r:RelV v u):PySem.W.handedIn u = true:=by
  cases v with
  | non=>cases (show u = Value.none from r); rfl
  | bl b=>cases (show u = Value.bool b from r); rfl
  | int i=>obtain ⟨t,e⟩:=(show ∃ t,u = Value.int i t from r); cases e; rfl
  | str x=>obtain ⟨t,e⟩:=(show ∃ t,u = Value.str x t from r); cases e; rfl
  | byt b=>obtain ⟨t,e⟩:=(show ∃ t,u = Value.bytes b t from r); cases e; rfl
  | flt b=>obtain ⟨t,e⟩:=(show ∃ t,u = Value.float b t from r); cases e; rfl
  | ref a=>cases (show u = Value.ref a from r); rfl
  | ty n=>cases (show u = Value.type n from r); rfl
section
variable {P:Program} {w:World} {H H':Hp} {h h':Heap} {a C dx:Addr} {fs fs':List (Str × V)}
theorem ins_get (hok:HOk P w H h) (e:H a = some (.ins C dx fs)):∃ mA,ObjM h a dx C mA ∧ (∀ f,RelO (fs.lookup f) (mA f)) ∧ PySem.Within mA (fs.map (·.1)) ∧ fs.length ≤ 1000 ∧ H dx = some (.own a):=by
  refine L2.o_AAAAEAA ((show ObjOk P w H h a (.ins C dx fs) from hok a _ e)) fun d z ne ob mA n r q=>?_
  exact ⟨mA,⟨ob,n,ne⟩,r,q,z,d⟩
end
structure Cls (K:PySem.W.Frag) (C:Addr):Prop where
  pg:PySem.W.plainGet K C Str.empty = true
  hd:PySem.W.hasDictIn K C = true
  po:PySem.W.plainOver K C = true
  sa:PySem.W.findIn K (.ref C) "__setattr__" = some (some (.builtin "object.__setattr__"))
theorem Cls.get {K:PySem.W.Frag} {C:Addr} (c:Cls K C) (f:Str):PySem.W.plainGet K C f = true:=c.pg
noncomputable def NoAttr (K:PySem.W.Frag) (C:Addr) (f:Str):Prop:=PySem.W.findIn K (.ref C) f = some none
theorem NoAttr.taker {K:PySem.W.Frag} {C:Addr} {f:Str} (n:NoAttr K C f):PySem.W.takerIn K C f = some none:=by
  unfold PySem.W.takerIn
  rw [show PySem.W.findIn K (.ref C) f = some none from n]
  rfl
structure Con (K:PySem.W.Frag) (C:Addr) (f:Str) (v:V) (u:Value):Prop where
  at_:PySem.W.findIn K (.ref C) f = some (some u)
  rel:RelV v u
  get:PySem.W.specialIn K u "__get__" = some none
  cp:PySem.W.copiedNames.contains f = false
structure Meth (K:PySem.W.Frag) (C:Addr) (m:Str) (f:Addr):Prop where
  at_:PySem.W.findIn K (.ref C) m = some (some (.ref f))
  fn:PySem.W.isFn K (.ref f) = true
  kp:PySem.W.keepIn K (.ref f) = true
section
variable {X:Cx} {pins:List (Addr × Obj)} {σ:St} {H:Hp} {s:Shared} {a C dx:Addr} {fs:List (Str × V)} {f:Str} {v:V} {A:Around} {E:Value → Shared → Prop}
theorem getattr_ok {b:Bool} {Q:Value → Shared → Prop} (I:Inv X pins σ H s) (e:H a = some (.ins C dx fs)) (c:Cls X.K C) (n:NoAttr X.K C f) (l:fs.lookup f = some v)
    (h:∀ u s',Inv X pins σ H s' → RelV v u → Q u s'):wpAny (model X.prog X.w) A (getAttr (.ref a) f b) Q E s:=by
  refine L2.o_EAAAA (ins_get I.hok e) fun mA O r _ _ _=>?_
  obtain ⟨u,hu,ru⟩:=RelO.some_of (v:=v) (o:=mA f) (by rw [← l]; exact r f)
  exact get_map I.kIn O (c.get f) c.hd n hu (handed_of ru) (h u _ (I.tok _) ru)
theorem getmeth_ok {m:Str} {g:Addr} {pl:Sem Bool} {Q:Value × List Value → Shared → Prop} (I:Inv X pins σ H s) (e:H a = some (.ins C dx fs)) (c:Cls X.K C) (k:Meth X.K C m g) (l:fs.lookup m = none)
    (h:Q (.ref g,[.ref a]) s):wpAny (model X.prog X.w) A (getMethod (.ref a) m pl) Q E s:=by
  refine L2.o_EAAAA (ins_get I.hok e) fun mA O r _ _ _=>?_
  have hn:mA m = none:=RelO.none_of (by rw [← l]; exact r m)
  exact get_meth I.kIn O (c.get m) k.at_ k.fn hn h
theorem setattr_ok {y:V} {u:Value} {Q:Unit → Shared → Prop} (I:Inv X pins σ H s) (e:H a = some (.ins C dx fs)) (c:Cls X.K C) (n:NoAttr X.K C f) (hl:fs.length < 1000) (ry:RelV y u)
    (h:∀ s',Inv X pins σ (upd H a (.ins C dx (putF f y fs))) s' → Q () s'):wpAny (model X.prog X.w) A (setAttr (.ref a) f u) Q E s:=by
  refine L2.o_EAAAA (ins_get I.hok e) fun mA O r wi _ ho=>?_
  have hz:(fs.map (·.1)).length ≤ sizeLine:=by rw [List.length_map,sizeLine_eq]; (clear hl; omega)
  refine set_map I.kIn O c.sa c.po n.taker c.hd wi hz fun h' O' sb=>h _ ?_
  have hd:∃ o,h'.get? dx = some o:=let ⟨o,_,_,e',_⟩:=O'.ns; ⟨o,e'⟩
  refine I.write (x:=a) (e:=dx) (by rw [e]; exact True.intro) (.inr ho) (fun b q hb z=>(sb.2 b hb).trans z) hd ?_
  refine ⟨by rw [upd_ne O.ne]; exact ho,?_,O.ne,O'.obj,_,O'.ns,fun g=>?_,fun g hg=>?_⟩
  · have:=length_putF f y fs; (clear hz; omega)
  · show RelO ((putF f y fs).lookup g) (if g = f then some u else mA g)
    rw [lookup_putF]
    by_cases q:g = f
    · rw [if_pos q,if_pos q]; exact ry
    · rw [if_neg q,if_neg q]; exact r g
  · by_cases q:g = f
    · rw [q]; exact (keys_putF f y fs).1
    · refine (keys_putF f y fs).2 g (wi g fun z=>hg ?_)
      show (if g = f then some u else mA g) = none
      rw [if_neg q]; exact z
theorem Inv.made (I:Inv X pins σ H s):Inv X pins σ (upd (upd H s.heap.objs.size (.own (s.heap.objs.size + 1))) (s.heap.objs.size + 1) (.ins C s.heap.objs.size []))
    { s with heap:=(s.heap.push PySem.W.emptyDict).push (PySem.W.instObj C s.heap.objs.size) }:=by
  have e1:(s.heap.push PySem.W.emptyDict).get? s.heap.objs.size = some PySem.W.emptyDict:=Heap.get?_push_size s.heap rfl
  have e2:((s.heap.push PySem.W.emptyDict).push (PySem.W.instObj C s.heap.objs.size)).get? (s.heap.objs.size + 1) = some (PySem.W.instObj C s.heap.objs.size):=by
    have:=Heap.get?_push_size (s.heap.push PySem.W.emptyDict) (o:=PySem.W.instObj C s.heap.objs.size) rfl
    rwa [Heap.size_push] at this
  have e3:(s.heap.push PySem.W.emptyDict).Ns s.heap.objs.size (fun _=>none):=⟨PySem.W.emptyDict,#[],_,e1,rfl,(fun e he=>absurd he (by simp)),fun _=>rfl⟩
  have I1:=I.laid (a:=s.heap.objs.size) (o:=.own (s.heap.objs.size + 1)) (h':=s.heap.push PySem.W.emptyDict) (t':=s.toks) (fun b u q=>Heap.get?_push_of_some _ q) (Nat.le_refl _) ⟨_,e1⟩
  refine I1.laid (a:=s.heap.objs.size + 1) (o:=.ins C s.heap.objs.size []) (t':=s.toks) (fun b u q=>Heap.get?_push_of_some _ q) (Nat.le_of_eq (Heap.size_push _ _)) ?_
  have ne:s.heap.objs.size ≠ s.heap.objs.size + 1:=Nat.ne_of_lt (Nat.lt_succ_self _)
  refine ⟨by rw [upd_ne ne,upd_same],Nat.zero_le _,ne,e2,fun _=>none,(Heap.Ns1.of_empty e3).at fun o q=>Heap.get?_push_of_some _ q,fun _=>True.intro,fun y hy=>absurd rfl hy⟩
theorem attr_of {prog:Program} {w:World} {env:Env} {e:Expr} {f:Str} {pos:Pos} {s:Shared} {Q:Value → Shared → Prop} (hb:attributeBase e f env (eval e env) = eval e env)
    (h:wpAny (model prog w) A (eval e env) (fun o s₁=>wpAny (model prog w) A (getAttr o f true) Q E s₁) E s):wpAny (model prog w) A (eval (.Attribute e f pos) env) Q E s:=
  Attribute_any_ h (by rw [arm_eval_Attribute,hb])
end
noncomputable def tFld (K:PySem.W.Frag) (ta:TE) (f:Str):TE:=fun σ H Q=>ta σ H fun x H1=>∃ a C dx fs v,x = .ref a ∧ H1 a = some (.ins C dx fs) ∧ Cls K C ∧ NoAttr K C f ∧ fs.lookup f = some v ∧ Q v H1
noncomputable def sFld (K:PySem.W.Frag) (ta tv:TE) (f:Str):TS:=fun D σ H=>tv σ H fun y H1=>ta σ H1 fun x H2=>∃ a C dx fs,x = .ref a ∧ H2 a = some (.ins C dx fs) ∧ Cls K C ∧ NoAttr K C f ∧ fs.length < 1000 ∧
  D.nx σ (upd H2 a (.ins C dx (putF f y fs)))
section
variable {X:Cx} {o e value:Expr} {f:Str} {pos pos' tpos:Pos} {ta tv:TE}
theorem pe_fld (he:PE X e ta) (hb:attributeBase e f X.env (eval e X.env) = eval e X.env):PE X (.Attribute e f pos) (tFld X.K ta f):=by
  intro pins s σ H Q I h
  refine attr_of hb (thn (he pins s σ H _ I h) fun u s1 zpat=>?_)
  obtain ⟨x,H1,I1,rx,a,C,dx,fs,v,ex,ea,c,n,l,q⟩:=zpat
  subst ex
  obtain rfl:u = Value.ref a:=rx
  exact getattr_ok I1 ea c n l fun u' s2 I2 ru=>⟨v,H1,I2,ru,q⟩
theorem ps_fld (ha:PE X o ta) (hv:PE X value tv) (hs:swapsWith value (some (.Attribute o f pos')) pos.line X.env = pure false):PS X (.Assign [.Attribute o f pos'] value pos) (sFld X.K ta tv f):=by
  intro pins s σ H D I h
  refine plainObj_wpAny_Assign_Attribute (thn (hv pins s σ H _ I h) fun u s1 ⟨y,H1,I1,ry,q⟩=>thn (ha pins s1 σ H1 _ I1 q) fun ov s2 ⟨x,H2,I2,rx,a,C,dx,fs,ex,ea,c,n,l,q2⟩=>?_) hs
  subst ex
  obtain rfl:ov = Value.ref a:=rx
  exact setattr_ok I2 ea c n l ry fun s3 I3=>⟨σ,_,I3,q2⟩
end
section
variable {X:Cx} {pins:List (Addr × Obj)} {σ:St} {H:Hp} {s:Shared} {A:Around} {E:Value → Shared → Prop} {Q:Value → Shared → Prop} {c:Value} {b:Bool}
inductive TyOf (K:PySem.W.Frag) (H:Hp):V → Value → Prop where
  | non:TyOf K H .non (.type "NoneType")
  | bl (x:Bool):TyOf K H (.bl x) (.type "bool")
  | int (i:Int):TyOf K H (.int i) (.type "int")
  | str (x:Str):TyOf K H (.str x) (.type "str")
  | flt (x:UInt64):TyOf K H (.flt x) (.type "float")
  | lst {a:Addr} {xs:List V} (e:H a = some (.lst xs)):TyOf K H (.ref a) (.type "list")
  | frz {a:Addr} {o:Obj} {xs:List V} (e:H a = some (.frz o (.lst xs))):TyOf K H (.ref a) (.type "list")
  | tup {a:Addr} {xs:List V} (e:H a = some (.tup xs)):TyOf K H (.ref a) (.type "tuple")
  | dK {a:Addr} {kvs:List (Key × V)} (e:H a = some (.dK kvs)):TyOf K H (.ref a) (.type "dict")
  | dT {a:Addr} {kvs:List (List Key × V)} (e:H a = some (.dT kvs)):TyOf K H (.ref a) (.type "dict")
  | ins {a C dx:Addr} {fs:List (Str × V)} (e:H a = some (.ins C dx fs)) (cl:Cls K C) (ha:PySem.W.findIn K (.ref C) "__class__" = some (some (.builtin "object.__class__")))
      (hn:PySem.W.specialIn K (.builtin "object.__class__") "__get__" = some (some (.builtin "getset_descriptor.__get__"))) (htk:PySem.W.takesIn K (.builtin "object.__class__") = some true)
      (hm:PySem.W.mroIn K C (.type "object") = some true):TyOf K H (.ref a) (.ref C)
end
end L2
namespace L2
open PySem PySem.Spec PyProof.Rows
structure Room (k:Nat) (A:Around):Prop where
  hd:A.handled = none
  dp:A.depth + 3 * k + 5 < recursionLimit
  un:A.units + 16 * k + 200 < cLine
  gd:A.guards = some []
theorem Room.mono {j k:Nat} {A:Around} (r:Room k A) (h:j ≤ k):Room j A:=⟨r.hd,by have:=r.dp; omega,by have:=r.un; omega,r.gd⟩
theorem Room.deeper {k:Nat} {A:Around} (r:Room (k + 1) A) (env:Env):Room k (A.deeper env):=
  ⟨r.hd,by have:=r.dp; show A.depth + 1 + 3 * k + 5 < _; omega,by have:=r.un; show A.units + 3 + 16 * k + 200 < _; omega,r.gd⟩
theorem Room.in1 {k:Nat} {A:Around} (r:Room (k + 1) A):Room k A.in1:=
  ⟨r.hd,by have:=r.dp; show A.depth + 3 * k + 5 < _; omega,by have:=r.un; show A.units + 1 + 16 * k + 200 < _; omega,r.gd⟩
theorem make_depth {A:Around} {C:Addr} {us:List Value} {kw:List (Str × Value)}:(A.under (.builtin "type.__call__" ⟨.ref C :: us,kw⟩)).depth = A.depth + 1:=by
  first | rfl | simp [Around.under,Code.weight,Code.isCreation,Code.isGuard,Code.isCaller,Code.frames,Code.isFrame,guardIds]
theorem make_units {A:Around} {C:Addr} {us:List Value} {kw:List (Str × Value)}:(A.under (.builtin "type.__call__" ⟨.ref C :: us,kw⟩)).units = A.units + 1:=by
  first | rfl | simp [Around.under,Code.cUnits,Code.frames,Code.isFrame]
theorem make_guards {A:Around} {C:Addr} {us:List Value} {kw:List (Str × Value)} (h:A.guards = some []):(A.under (.builtin "type.__call__" ⟨.ref C :: us,kw⟩)).guards = some []:=by
  simp [Around.under,Code.guards,Code.isGuard,guardIds,pushGuards,h]
theorem Room.make {k:Nat} {A:Around} (r:Room (k + 1) A) (C:Addr) (us:List Value) (kw:List (Str × Value)):Room k (A.under (.builtin "type.__call__" ⟨.ref C :: us,kw⟩)):=
  ⟨r.hd,by have:=r.dp; rw [make_depth]; omega,by have:=r.un; rw [make_units]; omega,make_guards r.gd⟩
theorem Room.depth {k:Nat} {A:Around} (r:Room k A):A.depth < recursionLimit:=by have:=r.dp; omega
theorem Room.units {k:Nat} {A:Around} (r:Room k A):A.units + 64 < cLine:=by have:=r.un; omega
noncomputable def tNil:TA:=fun _ H Q=>Q [] H
noncomputable def tCons (ta:TE) (tr:TA):TA:=fun σ H Q=>ta σ H fun x H1=>tr σ H1 fun xs H2=>Q (x :: xs) H2
section
variable {X:Cx} {e:Expr} {es:List Expr} {te:TE} {t:TA} {pos:Pos}
theorem pa_nil:PA X [] tNil:=fun _ _ _ _ H Q I h=>Calls.spliced_nil ⟨[],H,I,.nil,h⟩
theorem pa_cons (ha:PE X e te) (hr:PA X es t) (hs:autoParam (starEach (e :: es) X.env = (false,eval e X.env) :: starEach es X.env) L2.ar._auto_1):PA X (e :: es) (tCons te t):=by
  intro pos pins s σ H Q I h
  rw [hs]
  show wpAny _ _ (spliced ((false,eval e X.env) :: backTo pos (starEach es X.env))) _ _ s
  refine Calls.spliced_cons (thn (ha pins s σ H _ I h) fun u s1 zpat=>?_)
  obtain ⟨x,H1,I1,r1,q1⟩:=zpat
  exact thn (hr pos pins s1 σ H1 _ I1 q1) fun us s2 ⟨xs,H2,I2,r2,q2⟩=>⟨x :: xs,H2,I2,.cons r1 r2,q2⟩
noncomputable def tTup (t:TA):TE:=fun σ H Q=>t σ H fun xs H1=>xs.length ≤ sizeLine ∧ ∀ p,H1 p = none → Q (.ref p) (upd H1 p (.tup xs))
noncomputable def tLst (t:TA):TE:=fun σ H Q=>t σ H fun xs H1=>xs.length ≤ sizeLine ∧ ∀ p,H1 p = none → Q (.ref p) (upd H1 p (.lst xs))
theorem pe_tup {x1} (h:PA X es t):PE X (.Tuple es x1 pos) (tTup t):=by
  intro pins s σ H Q I hq
  refine wpAny_Tuple_spliced (thn (h pos pins s σ H _ I hq) fun us s1 ⟨xs,H1,I1,r,z,q⟩=>⟨by rw [← r.length]; exact z,?_⟩)
  have hf:H1 s1.heap.objs.size = none:=I1.hok.fresh (Nat.le_refl _)
  refine ⟨.ref s1.heap.objs.size,upd H1 s1.heap.objs.size (.tup xs),I1.laid (t':=s1.toks) (fun b u e=>Heap.get?_push_of_some _ e) (Nat.le_refl _) ?_,rfl,q _ hf⟩
  exact ⟨z,us,r,⟨_,Heap.get?_push_size _ rfl,rfl,_,rfl⟩⟩
theorem pe_lst (h:PA X es t):PE X (.List es pos) (tLst t):=by
  intro pins s σ H Q I hq
  refine wpAny_List_spliced (thn (h pos pins s σ H _ I hq) fun us s1 ⟨xs,H1,I1,r,z,q⟩=>⟨by rw [← r.length]; exact z,?_⟩)
  have hf:H1 s1.heap.objs.size = none:=I1.hok.fresh (Nat.le_refl _)
  refine ⟨.ref s1.heap.objs.size,upd H1 s1.heap.objs.size (.lst xs),I1.laid (t':=s1.toks) (fun b u e=>Heap.get?_push_of_some _ e) (Nat.le_refl _) ?_,rfl,q _ hf⟩
  exact L2.i_AEEA (z) (us) (0) (r) (Heap.get?_push_size _ rfl)
end
noncomputable abbrev Sp:=List V → Hp → VK → XK → Prop
noncomputable abbrev CXT:=List Env → Hp → Shared → XK → Value → Shared → Prop
structure Env0 (P:Program) (w:World) (K:PySem.W.Frag) (mg:Str → Option Value) (base:Heap) (A:Around) (outer:List Env) (s:Shared) (H:Hp):Prop where
  frames:A.frames = some outer
  mod:Mod K mg base
  bs:∀ b o,base.get? b = some o → s.heap.get? b = some o ∧ H b = none
  bsz:base.objs.size ≤ s.heap.objs.size
  funs:s.heap.FunFrames base outer
  frf:∀ b ∈ frs outer,H b = none
  hok:HOk P w H s.heap
  bare:AllBare s.gens
  tabs:TabsOk P K mg base H
noncomputable def CE (outer:List Env) (P:Program) (w:World) (H:Hp) (s:Shared) (Q:VK) (u:Value) (s':Shared):Prop:=
  ∃ v H',s'.os = s.os ∧ AllBare s'.gens ∧ Un (frs outer) [] H H' s.heap s'.heap ∧ HOk P w H' s'.heap ∧ RelV v u ∧ Q v H'
noncomputable def CR (CX:CXT) (outer:List Env) (P:Program) (w:World) (H:Hp) (s:Shared) (Q:VK) (E:XK) (r:Result) (s':Shared):Prop:=
  match r with
  | .ok (.ret u)=>CE outer P w H s Q u s'
  | .ok _=>False
  | .error e=>CX outer H s E e s'
structure FnOk (P:Program) (w:World) (K:PySem.W.Frag) (mg:Str → Option Value) (base:Heap) (CX:CXT) (k:Nat) (f:Addr) (fd:FuncData) (ps:List Str) (sp:Sp):Prop where
  len:∀ vs H Q E,sp vs H Q E → vs.length = ps.length
  run:∀ (A:Around) (outer:List Env) (s:Shared) (H:Hp) (args:Args) (us:List Value) (vs:List V) (Q:VK) (E:XK),Room k A → Env0 P w K mg base A outer s H → BindsTo s fd args (ps.zip us) → Vals vs us → sp vs H Q E →
    codeAny (model P w) A (.call (.ref f) args) (CR CX outer P w H s Q E) s
theorem FnOk.mono {P:Program} {w:World} {K:PySem.W.Frag} {mg:Str → Option Value} {base:Heap} {CX:CXT} {j k:Nat} {f:Addr} {fd:FuncData} {ps:List Str} {sp:Sp} (F:FnOk P w K mg base CX j f fd ps sp) (h:j ≤ k) :
    FnOk P w K mg base CX k f fd ps sp:=⟨F.len,fun A outer s H args us vs Q E hr=>F.run A outer s H args us vs Q E (hr.mono h)⟩
theorem FnOk.imp {P:Program} {w:World} {K:PySem.W.Frag} {mg:Str → Option Value} {base:Heap} {CX:CXT} {k:Nat} {f:Addr} {fd:FuncData} {ps:List Str} {sp sp':Sp} (F:FnOk P w K mg base CX k f fd ps sp)
    (h:∀ vs H Q E,sp' vs H Q E → sp vs H Q E):FnOk P w K mg base CX k f fd ps sp':=
  ⟨fun vs H Q E q=>F.len vs H Q E (h _ _ _ _ q),fun A outer s H args us vs Q E hr he hb hv hs=>F.run A outer s H args us vs Q E hr he hb hv (h _ _ _ _ hs)⟩
theorem Env0.make {P:Program} {w:World} {K:PySem.W.Frag} {mg:Str → Option Value} {base:Heap} {A:Around} {outer:List Env} {s:Shared} {H:Hp} (e:Env0 P w K mg base A outer s H) (C:Addr) (us:List Value) (kw:List (Str × Value)) :
    Env0 P w K mg base (A.under (.builtin "type.__call__" ⟨.ref C :: us,kw⟩)) outer s H:=⟨by first | exact e.frames | (simpa [Around.under,Code.envs,Code.isFrame,pushEnvs] using e.frames),e.mod,e.bs,e.bsz,e.funs,e.frf,e.hok,e.bare,e.tabs⟩
theorem Env0.in1 {P:Program} {w:World} {K:PySem.W.Frag} {mg:Str → Option Value} {base:Heap} {A:Around} {outer:List Env} {s:Shared} {H:Hp} (e:Env0 P w K mg base A outer s H) :
    Env0 P w K mg base A.in1 outer s H:=⟨e.frames,e.mod,e.bs,e.bsz,e.funs,e.frf,e.hok,e.bare,e.tabs⟩
section
variable {X:Cx} {pins:List (Addr × Obj)} {σ:St} {H:Hp} {s s':Shared}
theorem Inv.env0 (I:Inv X pins σ H s):Env0 X.prog X.w X.K X.mg X.base X.A X.stack s H:=
  ⟨I.ok.frames,I.ok.mod,I.bs,Nat.le_trans I.ok.bsz I.sz,I.stack,I.stkFree,I.hok,I.bare,fun x c p h1 h2=>let z:=I.ok.tabs x c p h1 h2; ⟨I.base.tabs p z.1,z.2⟩⟩
theorem Inv.after {Q:VK} {u:Value} (I:Inv X pins σ H s) (h:CE X.stack X.prog X.w H s Q u s'):EP X pins σ Q u s':=by
  refine L2.o_EEAAAAA (h) fun v H' os bare un hok r q=>?_
  obtain ⟨hh,g,d,t,os'⟩:=s'
  obtain rfl:os' = s.os:=os
  exact ⟨v,H',I.call (h':=hh) (g':=g) (d':=d) (t':=t) (ch:=[]) un hok bare (fun b z=>absurd z (by simp)),r,q⟩
end
noncomputable def tCall (sp:Sp) (dvs:List V) (E:XK) (t:TA):TE:=fun σ H Q=>t σ H fun vs H1=>sp (vs ++ dvs) H1 Q E
noncomputable def tMeth (C:Addr) (m:Str) (sp:Sp) (dvs:List V) (E:XK) (ta:TE) (t:TA):TE:=fun σ H Q=>ta σ H fun x H1=>∃ a dx fs,x = .ref a ∧ H1 a = some (.ins C dx fs) ∧ fs.lookup m = none ∧
  t σ H1 fun vs H2=>sp (x :: (vs ++ dvs)) H2 Q E
noncomputable def tMake (C:Addr) (sp:Sp) (dvs:List V) (E:XK) (t:TA):TE:=fun σ H Q=>t σ H fun vs H1=>∀ x dx,H1 x = none → H1 dx = none → dx ≠ x →
  sp (.ref x :: (vs ++ dvs)) (upd (upd H1 dx (.own x)) x (.ins C dx [])) (fun v H2=>v = .non ∧ Q (.ref x) H2) E
noncomputable def Binds (K:PySem.W.Frag) (fd:FuncData) (ps:List Str) (ds:List Value):Prop:=
  ∀ (s:Shared) (us:List Value),K.In s.heap → (us ++ ds).length = ps.length → BindsTo s fd ⟨us,[]⟩ (ps.zip (us ++ ds))
theorem Binds.all {K:PySem.W.Frag} {fd:FuncData} {ps:List Str} (h:∀ us:List Value,us.length = ps.length → bindArgs fd ⟨us,[]⟩ = pure (ps.zip us)):Binds K fd ps []:=fun s us _ hl=>by
  rw [List.append_nil] at hl ⊢
  exact .of_eq (h us hl)
noncomputable def Passes (CX:CXT) (X:Cx) (E:XK):Prop:=∀ (pins:List (Addr × Obj)) (σ:St) (H:Hp) (s:Shared) (e:Value) (s':Shared),Inv X pins σ H s → CX X.stack H s E e s' → X.xe e s'
section
variable {X:Cx} {CX:CXT} {k:Nat} {f C:Addr} {fd:FuncData} {ps:List Str} {sp:Sp} {dvs:List V} {ds:List Value} {E:XK} {x m:Str} {p pos apos:Pos} {e o:Expr} {es:List Expr} {ta:TE} {t:TA}
theorem run_fn {pins:List (Addr × Obj)} {σ:St} {H:Hp} {s:Shared} {Q:VK} {us:List Value} {vs:List V} (F:FnOk X.prog X.w X.K X.mg X.base CX k f fd ps sp) (hr:Room k X.A) (hb:Binds X.K fd ps ds) (hd:Vals dvs ds) (hx:Passes CX X E)
    (I:Inv X pins σ H s) (r:Vals vs us) (h:sp (vs ++ dvs) H Q E):wpAny (model X.prog X.w) X.A (call (.ref f) us) (EP X pins σ Q) X.xe s:=by
  have r2:Vals (vs ++ dvs) (us ++ ds):=r.append hd
  have hl:(us ++ ds).length = ps.length:=by rw [← r2.length]; exact F.len _ _ _ _ h
  refine wpAny_call (codeAny_mono (F.run X.A X.stack s H ⟨us,[]⟩ (us ++ ds) (vs ++ dvs) Q E hr I.env0 (hb s us I.kIn hl) r2 h) fun r s' hq=>?_)
  cases r with
  | error e=>exact hx pins σ H s e s' I hq
  | ok fl=>
    cases fl with
    | ret u=>exact I.after hq
    | next=>exact False.elim hq
    | brk=>exact False.elim hq
    | cont=>exact False.elim hq
theorem pe_call (F:FnOk X.prog X.w X.K X.mg X.base CX k f fd ps sp) (hr:Room k X.A) (hg:Gl X x) (hm:X.mg x = some (.ref f)) (hk:PySem.W.keepIn X.K (.ref f) = true) (hb:Binds X.K fd ps ds) (hd:Vals dvs ds) (hx:Passes CX X E)
    (ha:PA X (e :: es) t) (hdb:autoParam ((x == ("__debug__":Str)) = false) L2.ad._auto_1) (he:autoParam (starEach (e :: es) X.env = (false,eval e X.env) :: starEach es X.env) L2.ar._auto_1) (hpl:autoParam ((backTo pos (starEach es X.env)).any (·.1) = false) L2.ar._auto_1) :
    PE X (.Call (.Name x p) (e :: es) [] pos) (tCall sp dvs E t):=by
  intro pins s σ H Q I h
  refine wpAny_Call_Name_kw (ld_glob I hg hm ?_ hdb)
  refine PySem.W.callWith_K (h₀:=X.base) I.ok.mod.kin hk (thn (ha pos pins s σ H _ I h) fun us s1 ⟨vs,H1,I1,r,q⟩=>⟨I1.kIn,?_⟩) he hpl
  exact run_fn F hr hb hd hx I1 r q
theorem pe_meth {pl:Sem Bool} (he:PE X o ta) (c:Cls X.K C) (hm:Meth X.K C m f) (F:FnOk X.prog X.w X.K X.mg X.base CX k f fd ps sp) (hr:Room k X.A) (hb:Binds X.K fd ps ds) (hd:Vals dvs ds) (hx:Passes CX X E) (ha:PA X (e :: es) t)
    (hst:autoParam (starEach (e :: es) X.env = (false,eval e X.env) :: starEach es X.env) L2.ar._auto_1) (hpl:autoParam ((backTo pos (starEach es X.env)).any (·.1) = false) L2.ar._auto_1)
    (ht:autoParam (eval (.Call (.Attribute o m apos) (e :: es) [] pos) X.env = (do
      let ov ← eval o X.env
      standAt apos.atName
      let (f,first) ← holding [ov] (getMethod ov m pl)
      callWith pos f first (backTo pos (starEach (e :: es) X.env)) (backToKw pos (keywordEach [] X.env)))) L2.ar._auto_1) :
    PE X (.Call (.Attribute o m apos) (e :: es) [] pos) (tMeth C m sp dvs E ta t):=by
  intro pins s σ H Q I h
  refine PySem.W.methodCall_KW (pl:=pl) (thn (he pins s σ H _ I h) fun u s1 ⟨x,H1,I1,rx,a,dx,fs,ex,ea,l,q⟩=>?_) ht
  subst ex
  obtain rfl:u = Value.ref a:=rx
  refine getmeth_ok I1 ea c hm l ?_
  refine PySem.W.callWith_K (first:=[.ref a]) (h₀:=X.base) I.ok.mod.kin hm.kp (thn (ha pos pins s1 σ H1 _ I1 q) fun us s2 ⟨vs,H2,I2,r,q2⟩=>⟨I2.kIn,?_⟩) hst hpl
  exact run_fn (us:=.ref a :: us) (vs:=.ref a :: vs) F hr hb hd hx I2 (.cons rfl r) q2
theorem pe_meth0 {pl:Sem Bool} (he:PE X o ta) (c:Cls X.K C) (hm:Meth X.K C m f) (F:FnOk X.prog X.w X.K X.mg X.base CX k f fd ps sp) (hr:Room k X.A) (hb:Binds X.K fd ps ds) (hd:Vals dvs ds) (hx:Passes CX X E)
    (ht:autoParam (eval (.Call (.Attribute o m apos) [] [] pos) X.env = (do
      let ov ← eval o X.env
      standAt apos.atName
      let (f,first) ← holding [ov] (getMethod ov m pl)
      callWith pos f first (backTo pos (starEach [] X.env)) (backToKw pos (keywordEach [] X.env)))) L2.ar._auto_1) :
    PE X (.Call (.Attribute o m apos) [] [] pos) (tMeth C m sp dvs E ta tNil):=by
  intro pins s σ H Q I h
  refine PySem.W.methodCall_KW (pl:=pl) (thn (he pins s σ H _ I h) fun u s1 ⟨x,H1,I1,rx,a,dx,fs,ex,ea,l,q⟩=>?_) ht
  subst ex
  obtain rfl:u = Value.ref a:=rx
  refine getmeth_ok I1 ea c hm l ?_
  exact PySem.W.callWith_K0 (first:=[.ref a]) I1.kIn hm.kp (run_fn (us:=[.ref a]) (vs:=[.ref a]) F hr hb hd hx I1 (.cons rfl .nil) q)
structure Mk (K:PySem.W.Frag) (C f:Addr):Prop where
  makes:PySem.W.makesIn K C = true
  init:PySem.W.findIn K (.ref C) "__init__" = some (some (.ref f))
  fn:PySem.W.isFn K (.ref f) = true
  kp:PySem.W.keepIn K (.ref C) = true
theorem run_make {pins:List (Addr × Obj)} {σ:St} {H:Hp} {s:Shared} {Q:VK} {us:List Value} {vs:List V} (M:Mk X.K C f) (F:FnOk X.prog X.w X.K X.mg X.base CX k f fd ps sp) (hr:Room (k + 1) X.A) (hb:Binds X.K fd ps ds) (hd:Vals dvs ds)
    (hx:Passes CX X E) (I:Inv X pins σ H s) (r:Vals vs us)
    (h:∀ x dx,H x = none → H dx = none → dx ≠ x → sp (.ref x :: (vs ++ dvs)) (upd (upd H dx (.own x)) x (.ins C dx [])) (fun v H2=>v = .non ∧ Q (.ref x) H2) E) :
    wpAny (model X.prog X.w) X.A (call (.ref C) us) (EP X pins σ Q) X.xe s:=by
  have hq:=h (s.heap.objs.size + 1) s.heap.objs.size (I.hok.fresh (Nat.le_succ _)) (I.hok.fresh (Nat.le_refl _)) (Nat.ne_of_lt (Nat.lt_succ_self _))
  have I2:=Inv.made (C:=C) I
  have r2:Vals (V.ref (s.heap.objs.size + 1) :: (vs ++ dvs)) (Value.ref (s.heap.objs.size + 1) :: (us ++ ds)):=.cons rfl (r.append hd)
  have hl:(Value.ref (s.heap.objs.size + 1) :: us ++ ds).length = ps.length:=by
    have e:=r2.length
    rw [F.len _ _ _ _ hq] at e
    exact e.symm
  refine wpAny_call (make_map (f:=f) I.kIn M.makes M.init (beq_iff_eq.mp M.fn) (codeAny_mono (F.run _ X.stack _ _ ⟨Value.ref (s.heap.objs.size + 1) :: us,[]⟩ (Value.ref (s.heap.objs.size + 1) :: (us ++ ds)) _ _ E (hr.make C us [])
    (I2.env0.make C us []) (hb _ (Value.ref (s.heap.objs.size + 1) :: us) I2.kIn hl) r2 hq) fun r s' hq'=>?_))
  cases r with
  | error e=>exact hx pins σ _ _ e s' I2 hq'
  | ok fl=>
    cases fl with
    | ret u=>
      obtain ⟨v,H',I3,rv,ev,q3⟩:=I2.after hq'
      subst ev
      exact ⟨rv,⟨V.ref (s.heap.objs.size + 1),H',I3,rfl,q3⟩⟩
    | next=>exact False.elim hq'
    | brk=>exact False.elim hq'
    | cont=>exact False.elim hq'
theorem pe_make (M:Mk X.K C f) (F:FnOk X.prog X.w X.K X.mg X.base CX k f fd ps sp) (hr:Room (k + 1) X.A) (hg:Gl X x) (hm:X.mg x = some (.ref C)) (hb:Binds X.K fd ps ds) (hd:Vals dvs ds) (hx:Passes CX X E)
    (ha:PA X (e :: es) t) (hdb:autoParam ((x == ("__debug__":Str)) = false) L2.ad._auto_1) (he:autoParam (starEach (e :: es) X.env = (false,eval e X.env) :: starEach es X.env) L2.ar._auto_1) (hpl:autoParam ((backTo pos (starEach es X.env)).any (·.1) = false) L2.ar._auto_1) :
    PE X (.Call (.Name x p) (e :: es) [] pos) (tMake C sp dvs E t):=by
  intro pins s σ H Q I h
  refine wpAny_Call_Name_kw (ld_glob I hg hm ?_ hdb)
  refine PySem.W.callWith_K (h₀:=X.base) I.ok.mod.kin M.kp (thn (ha pos pins s σ H _ I h) fun us s1 ⟨vs,H1,I1,r,q⟩=>⟨I1.kIn,?_⟩) he hpl
  exact run_make M F hr hb hd hx I1 r q
end
section
variable {X:Cx} {CX:CXT} {k:Nat} {f C:Addr} {fd:FuncData} {ps ks:List Str} {sp:Sp} {E:XK} {x m:Str} {p pos apos kpos:Pos} {e o:Expr} {es:List Expr} {kws:List Keyword} {te ta:TE} {t tk:TA} {nm:Option Str}
structure KBinds (K:PySem.W.Frag) (fd:FuncData) (ps ks:List Str) (g:List Value → List Value → List Value) (gV:List V → List V → List V):Prop where
  to:∀ (s:Shared) (us ws:List Value),K.In s.heap → (g us ws).length = ps.length → BindsTo s fd ⟨us,ks.zip ws⟩ (ps.zip (g us ws))
  rel:∀ {vs:List V} {us:List Value} {zs:List V} {ws:List Value},Vals vs us → Vals zs ws → Vals (gV vs zs) (g us ws)
variable {g:List Value → List Value → List Value} {gV:List V → List V → List V}
end
structure FnScope (N P:List Str) (sc:Scope):Prop where
  kind:sc.kind = .function
  co:sc.isCoroutine = false
  gen:sc.isGenerator = false
  nd:N.Nodup
  pre:N.take P.length = P
  par:∀ x ∈ P,sc.names.lookup x = some .local ∨ sc.names.lookup x = some .cell
  nofree:∀ y ∈ sc.names,y.2 ≠ .free
theorem bindL_out {kindOf:Str → Option NameKind} {x:Str}:∀ {binds:List (Str × Value)} {m:Str → Option Value},(∀ v,(x,v) ∉ binds) → bindL kindOf binds m x = m x
  | [],_,_=>rfl
  | (n,v) :: r,m,h=>by
    unfold bindL
    rw [bindL_out fun w hw=>h w (List.mem_cons_of_mem _ hw)]
    split
    · have:x ≠ n:=by rintro rfl; exact h v List.mem_cons_self
      simp [this]
    · rfl
theorem bindC_out {kindOf:Str → Option NameKind} {x:Str}:∀ {binds:List (Str × Value)} {m:Str → Option Value},(∀ v,(x,v) ∉ binds) → bindC kindOf binds m x = m x
  | [],_,_=>rfl
  | (n,v) :: r,m,h=>by
    unfold bindC
    rw [bindC_out fun w hw=>h w (List.mem_cons_of_mem _ hw)]
    split
    · rfl
    · have:x ≠ n:=by rintro rfl; exact h v List.mem_cons_self
      simp [this]
theorem bindL_get {kindOf:Str → Option NameKind} {x:Str} {v:Value}:∀ {P:List Str} {vs:List Value} {i:Nat} {m:Str → Option Value},P.Nodup → P[i]? = some x → vs[i]? = some v → kindOf x = some .local →
    bindL kindOf (P.zip vs) m x = some v
  | [],_,_,_,_,h,_,_=>by simp at h
  | _ :: _,[],_,_,_,_,h,_=>by simp at h
  | p :: P,w :: vs,0,m,nd,h1,h2,hk=>by
    simp at h1 h2; subst h1; subst h2
    show bindL kindOf ((p,w) :: P.zip vs) m p = _
    unfold bindL
    rw [bindL_out fun v hv=>(List.nodup_cons.mp nd).1 (List.of_mem_zip hv).1,if_pos hk]
    simp
  | p :: P,w :: vs,i + 1,m,nd,h1,h2,hk=>by
    show bindL kindOf ((p,w) :: P.zip vs) m x = _
    unfold bindL
    exact bindL_get (i:=i) (List.nodup_cons.mp nd).2 (by simpa using h1) (by simpa using h2) hk
theorem bindC_get {kindOf:Str → Option NameKind} {x:Str} {v:Value}:∀ {P:List Str} {vs:List Value} {i:Nat} {m:Str → Option Value},P.Nodup → P[i]? = some x → vs[i]? = some v → kindOf x ≠ some .local →
    bindC kindOf (P.zip vs) m x = some v
  | [],_,_,_,_,h,_,_=>by simp at h
  | _ :: _,[],_,_,_,_,h,_=>by simp at h
  | p :: P,w :: vs,0,m,nd,h1,h2,hk=>by
    simp at h1 h2; subst h1; subst h2
    show bindC kindOf ((p,w) :: P.zip vs) m p = _
    unfold bindC
    rw [bindC_out fun v hv=>(List.nodup_cons.mp nd).1 (List.of_mem_zip hv).1,if_neg hk]
    simp
  | p :: P,w :: vs,i + 1,m,nd,h1,h2,hk=>by
    show bindC kindOf ((p,w) :: P.zip vs) m x = _
    unfold bindC
    exact bindC_get (i:=i) (List.nodup_cons.mp nd).2 (by simpa using h1) (by simpa using h2) hk
noncomputable def start (N:List Str) (vs:List V):St:=vs.map some ++ List.replicate (N.length - vs.length) none
noncomputable def cxOf (CX:CXT) (P:Program) (w:World) (K:PySem.W.Frag) (mg:Str → Option Value) (base:Heap) (N:List Str) (qual:Str) (scope:Scope) (f:Addr) (cd:Value) (A:Around) (outer:List Env) (s:Shared) (H:Hp) (E:XK):Cx where
  prog:=P
  w:=w
  K:=K
  mg:=mg
  base:=base
  A:=A.deeper (envOfC qual scope s.heap.objs.size f cd)
  N:=N
  s₀:=s
  H₀:=H
  env:=envOfC qual scope s.heap.objs.size f cd
  outer:=outer
  stack:=envOfC qual scope s.heap.objs.size f cd :: outer
  ex:=[]
  calm:=true
  fn:=fun _=>true
  pn:=[]
  xe:=fun e s'=>wpAny (model P w) (A.deeper (envOfC qual scope s.heap.objs.size f cd)) (leaving (envOfC qual scope s.heap.objs.size f cd) e) (fun _ s''=>CX outer H s E e s'') (fun e' s''=>CX outer H s E e' s'') s'
theorem cell_has {sc:Scope} {n:Nat} {x:Str} (h:sc.names.lookup x = some .cell):∃ c,(cellsFrom n sc.names []).lookup x = some c:=by
  have q:=PySem.W.cellsFrom_some sc.names n [] (.inl h)
  exact Option.isSome_iff_exists.mp q
theorem inv_start {CX:CXT} {P:Program} {w:World} {K:PySem.W.Frag} {mg:Str → Option Value} {base:Heap} {N ps:List Str} {qual:Str} {scope:Scope} {f:Addr} {cd:Value} {A:Around} {outer:List Env} {s s1:Shared} {H:Hp} {E:XK} {us:List Value} {vs:List V}
    (S:FnScope N ps scope) (hd:A.handled = none) (e0:Env0 P w K mg base A outer s H) (hl:vs.length = ps.length) (r:Vals vs us)
    (x:InCallC s s.heap.objs.size (bindL (envOfC qual scope s.heap.objs.size f cd).kindOf (ps.zip us) fun _=>none) (cellsFrom (s.heap.objs.size + 1) scope.names []) (bindC (envOfC qual scope s.heap.objs.size f cd).kindOf (ps.zip us) fun _=>none) s1) :
    Inv (cxOf CX P w K mg base N qual scope f cd A outer s H E) [] (start N vs) H s1:=by
  have hpl:ps.length ≤ N.length:=by have:=congrArg List.length S.pre; rw [List.length_take] at this; (clear hl; omega)
  refine L2.o_EEA (x.done) fun h1 tk zq2 hk=>?_
  subst zq2
  have noA:∀ b:Addr,b ∉ (cxOf CX P w K mg base N qual scope f cd A outer s H E).ex:=fun b z=>absurd (show b ∈ ([]:List Addr) from z) (by simp)
  refine ⟨⟨e0.mod,S.kind,rfl,rfl,Nat.le_refl _,fun y z c h1 h2=>?_,fun y hy=>?_,fun y c _ h=>?_,fun _=>hd,Around.frames_deeper e0.frames,.inr ⟨rfl,rfl⟩,fun b z=>absurd z (noA b),e0.bs,e0.bsz,fun b _ _=>noA b,fun b z=>absurd z (noA b),e0.funs,e0.frf,e0.tabs⟩,
    rfl,e0.bare,Un.kept hk,⟨_,x.toInCall.ns,fun i y v h1 h2 h3=>?_⟩,fun y c h=>⟨_,x.cell y c h⟩,e0.hok.fresh (Nat.le_refl _),fun y c h=>?_,fun p hp=>absurd (show p ∈ ([]:List (Addr × Obj)) from hp) (by simp),e0.hok.kept hk,?_⟩
  · exact name_of_addr x.apart (PySem.mem_of_lookup h1) (PySem.mem_of_lookup h2)
  · have hy:scope.names.lookup y = some .cell ∨ scope.names.lookup y = some .free:=hy
    rcases hy with hy | hy
    · exact cell_has hy
    · exact absurd rfl (S.nofree _ (PySem.mem_of_lookup hy))
  · exact Nat.le_of_lt (x.above y c (PySem.mem_of_lookup h))
  · have hi:i < vs.length:=by
      unfold start at h2
      by_cases hi:i < vs.length
      · exact hi
      · rw [List.getElem?_append_right (by simpa using hi)] at h2
        rw [List.getElem?_replicate] at h2
        split at h2 <;> cases h2
    have ha:vs[i]? = some v:=by
      unfold start at h2
      rw [List.getElem?_append_left (by simpa using hi),List.getElem?_map] at h2
      cases e:vs[i]? with
      | none=>rw [e] at h2; cases h2
      | some a=>rw [e] at h2; cases h2; rfl
    refine L2.o_EA (r.get ha) fun u hu rv=>?_
    have hp:ps[i]? = some y:=by
      rw [← S.pre,List.getElem?_take_of_lt (by (clear hu ha h2 h1 hpl; omega))]; exact h1
    have ndP:ps.Nodup:=by rw [← S.pre]; exact S.nd.sublist (List.take_sublist _ _)
    refine ⟨u,rv,?_⟩
    rcases S.par y (List.mem_of_getElem? hp) with k | k
    · exact .inl ⟨k,bindL_get ndP hp hu k⟩
    · refine L2.o_E (cell_has (n:=s.heap.objs.size + 1) k) fun c e=>?_
      refine .inr ⟨.inl k,c,e,?_⟩
      have q:=x.cell y c e
      rw [bindC_get ndP hp hu (by show scope.names.lookup y ≠ _; rw [k]; decide)] at q
      exact q
  · exact .inl (e0.hok.fresh (Nat.le_of_lt (x.above y c (PySem.mem_of_lookup h))))
  · unfold start
    show _ = N.length
    rw [List.length_append,List.length_map,List.length_replicate]
    omega
theorem fn_of {CX:CXT} {P:Program} {w:World} {K:PySem.W.Frag} {mg:Str → Option Value} {base:Heap} {k:Nat} {f:Addr} {name qual:Str} {params:Arguments} {body:List Stmt} {scope:Scope} {dV kV doc pm cdv ct oc:Value} {an od:Option Addr}
    {osl:Array (Option Value)} {N ps:List Str} {sp:Sp} (lk:K.lookup f = some ⟨oc,od,.func (PySem.W.fnOf name qual params body scope dV kV doc pm an cdv ct),osl⟩) (hcd:PySem.W.codeIn K cdv qual = true) (S:FnScope N ps scope)
    (len:∀ vs H Q E,sp vs H Q E → vs.length = ps.length)
    (hbody:∀ (A:Around) (outer:List Env) (s:Shared) (H:Hp) (vs:List V) (Q:VK) (E:XK),Room k (A.deeper (envOfC qual scope s.heap.objs.size f cdv)) → sp vs H Q E →
      ∃ t,PSs (cxOf CX P w K mg base N qual scope f cdv A outer s H E) body t ∧ t { nx:=fun _ H'=>Q .non H',rt:=Q } (start N vs) H) :
    FnOk P w K mg base CX (k + 1) f (PySem.W.fnOf name qual params body scope dV kV doc pm an cdv ct) ps sp:=by
  refine ⟨len,fun A outer s H args us vs Q E hr e0 hb r hsp=>?_⟩
  have hl:=len _ _ _ _ hsp
  have KX:K.In s.heap:=e0.mod.kin.keeps fun b o e=>(e0.bs b o e).1
  have lim:s.heap.NoLimit:=e0.mod.nolimit.keeps fun b o e=>(e0.bs b o e).1
  have hkind:∀ y ∈ ps.zip us,scope.names.lookup y.1 = some .local ∨ (scope.names.lookup y.1 = some .cell ∧ ((cellsFrom (s.heap.objs.size + 1) scope.names []).lookup y.1).isSome = true):=fun ⟨n,v⟩ hy=>by
    rcases S.par n (List.of_mem_zip hy).1 with q | q
    · exact .inl q
    · exact .inr ⟨q,PySem.W.cellsFrom_some _ _ _ (.inl q)⟩
  refine codeAny_call_function hr.depth (KX _ _ lk) rfl S.co S.gen rfl (PySem.W.codeRec_of KX hcd) (hb _ _ _ _ ?_)
  refine wpAny_newFunctionEnv_cells S.kind hkind fun env he s1 x=>?_
  subst he
  refine ⟨lim.keeps x.toInCall.keep,codeAny_func ?_⟩
  refine L2.o_EA (hbody A outer s H vs Q E (hr.deeper _) hsp) fun t ht hq=>?_
  have I:Inv (cxOf CX P w K mg base N qual scope f cdv A outer s H E) [] (start N vs) H s1:=inv_start S hr.hd e0 hl r x
  refine wpAny_mono (ht [] s1 (start N vs) H _ I hq) (fun fl s' hs=>?_) fun e s' hs=>hs
  have fin:∀ {σ':St} {H':Hp} {v:V} {u:Value},Inv (cxOf CX P w K mg base N qual scope f cdv A outer s H E) [] σ' H' s' → RelV v u → Q v H' → CE outer P w H s Q u s':=
    fun {σ' H' v u} J rv q=>⟨v,H',J.os,J.bare,J.base,J.hok,rv,q⟩
  cases fl with
  | ret u=>
    refine L2.o_EEEAA (hs) fun v σ' H' J rv q=>?_
    exact fin J rv q
  | next=>
    refine L2.o_EEA (hs) fun σ' H' J q=>?_
    exact fin (v:=V.non) (u:=Value.none) J rfl q
  | brk=>
    refine L2.o_EEA (hs) fun _ _ _ q=>?_
    exact False.elim q
  | cont=>
    refine L2.o_EEA (hs) fun _ _ _ q=>?_
    exact False.elim q
end L2
namespace L2
open PySem PySem.Spec PyProof.Rows
section
variable {X:Cx} {x:Str} {p pos:Pos} {e:Expr} {es:List Expr} {t:TA} {id T:String} {r:List V → Hp → VK → Prop}
noncomputable def tCB (r:List V → Hp → VK → Prop) (t:TA):TE:=fun σ H Q=>t σ H fun vs H1=>r vs H1 Q
theorem pe_callB (hc:CallR X (.builtin id) r) (hg:Gl X x) (hm:X.mg x = none) (hv:bootBuiltins x = some (.builtin id)) (ha:PA X (e :: es) t) (hn:autoParam (x ≠ "__name__") L2.ad._auto_1) (hdb:autoParam ((x == ("__debug__":Str)) = false) L2.ad._auto_1)
    (he:autoParam (starEach (e :: es) X.env = (false,eval e X.env) :: starEach es X.env) L2.ar._auto_1) (hpl:autoParam ((backTo pos (starEach es X.env)).any (·.1) = false) L2.ar._auto_1):PE X (.Call (.Name x p) (e :: es) [] pos) (tCB r t):=by
  intro pins s σ H Q I h
  refine wpAny_Call_Name_kw (ld_blt I hg hm hv ?_ hn hdb)
  exact PyProof.Rows.callWith_builtin1 (thn (ha pos pins s σ H _ I h) fun us s1 ⟨vs,H1,I1,r1,q1⟩=>hc pins s1 σ H1 vs us Q I1 r1 q1) he hpl
theorem pe_callTy (hc:CallR X (.type T) r) (hg:Gl X x) (hm:X.mg x = none) (hv:bootBuiltins x = some (.type T)) (ha:PA X (e :: es) t) (hn:autoParam (x ≠ "__name__") L2.ad._auto_1) (hdb:autoParam ((x == ("__debug__":Str)) = false) L2.ad._auto_1)
    (he:autoParam (starEach (e :: es) X.env = (false,eval e X.env) :: starEach es X.env) L2.ar._auto_1) (hpl:autoParam ((backTo pos (starEach es X.env)).any (·.1) = false) L2.ar._auto_1):PE X (.Call (.Name x p) (e :: es) [] pos) (tCB r t):=by
  intro pins s σ H Q I h
  refine wpAny_Call_Name_kw (ld_blt I hg hm hv ?_ hn hdb)
  exact PyProof.Rows.callWith_type1 (thn (ha pos pins s σ H _ I h) fun us s1 ⟨vs,H1,I1,r1,q1⟩=>hc pins s1 σ H1 vs us Q I1 r1 q1) he hpl
end
end L2
namespace HT
open PySem PyProof.Rows
section
open PySem.SeqAt
open PySem.AutoSeq1 (wpAny_loadPart')
open PySem.MeetsSeq PySem.MeetsSeq2 PySem.MeetsSeq3
end
section
variable {prog:Program} {w:World} {A:Around} {E:Value → Shared → Prop} {s:Shared}
noncomputable def sIx (n d:Nat):Option Int → Nat
  | none=>d
  | some v=>if v < 0 then (v + (n:Int)).toNat else min v.toNat n
theorem sIx_nat (n d k:Nat):sIx n d (some (k:Int)) = min k n:=by
  show (if (k:Int) < 0 then ((k:Int) + (n:Int)).toNat else min (k:Int).toNat n) = min k n
  rw [if_neg (by omega),Int.toNat_natCast]
end
end HT
namespace L2
open PySem PySem.Spec PyProof.Rows
noncomputable abbrev TO:=St → Hp → (Option Int → Hp → Prop) → Prop
noncomputable def PO (X:Cx) (e:Option Expr) (t:TO):Prop:=
  ∀ (pins:List (Addr × Obj)) (s:Shared) (σ:St) (H:Hp) (Q:Option Int → Hp → Prop),Inv X pins σ H s → t σ H Q →
    wpAny (model X.prog X.w) X.A (evalPart e X.env) (fun u s'=>∃ o H',Inv X pins σ H' s' ∧ IsPart u o ∧ Q o H') X.xe s
noncomputable def tNoPart:TO:=fun _ H Q=>Q none H
noncomputable def tPart (t:TE):TO:=fun σ H Q=>t σ H fun x H1=>∃ i,x = .int i ∧ Q (some i) H1
theorem intsAre_of {ns:List Int}:∀ {us:List Value},Vals (ns.map V.int) us → IntsAre us ns:=by
  induction ns with
  | nil=>intro us r; rw [List.map_nil] at r; cases r; exact .nil
  | cons n ns ih=>
    intro us r
    rw [List.map_cons] at r
    cases r with
    | cons r1 r2=>
      refine L2.o_E (r1) fun t e=>?_
      subst e
      exact .cons n t (ih r2)
section
variable {X:Cx} {e:Expr} {te:TE} {lo hi:Option Expr} {tl th:TO} {pos p2:Pos}
theorem po_none:PO X none tNoPart:=by
  intro pins s σ H Q I h
  rw [evalPart_none]
  exact wpAny_pure ⟨none,H,I,.none,h⟩
theorem po_some (h:PE X e te):PO X (some e) (tPart te):=by
  intro pins s σ H Q I hw
  rw [evalPart_some]
  refine thn (h pins s σ H _ I hw) fun u s1 zpat=>?_
  obtain ⟨x,H1,I1,r1,q1⟩:=zpat
  revert q1
  refine fun zqq=>L2.o_EA zqq fun i zq1 q=>?_
  clear zqq
  subst zq1
  revert r1
  refine fun zqq=>L2.o_E zqq fun t zq1=>?_
  clear zqq
  subst zq1
  exact L2.i_EEAA (some i) (H1) (I1) (.int i t) (q)
noncomputable def SlR (X:Cx) (r:V → Option Int → Option Int → Hp → VK → Prop):Prop:=
  ∀ (pins:List (Addr × Obj)) (s:Shared) (σ:St) (H:Hp) (x:V) (v vl vu:Value) (lo hi:Option Int) (sl:Addr) (Q:VK),Inv X pins σ H s → RelV x v → s.heap.IsSliceOf sl vl vu .none → IsPart vl lo → IsPart vu hi → r x lo hi H Q →
    ∃ T id,typeLookup (.type T) "__getitem__" = pure (some (.builtin id)) ∧ s.TypeIs v T ∧ wpAny (model X.prog X.w) X.A (getItem v (.ref sl)) (EP X pins σ Q) X.xe s
theorem SlR.or {r r':V → Option Int → Option Int → Hp → VK → Prop} (h:SlR X r) (h':SlR X r'):SlR X (fun x lo hi H Q=>r x lo hi H Q ∨ r' x lo hi H Q):=by
  intro pins s σ H x v vl vu lo hi sl Q I rx hs pl pu q
  rcases q with q | q
  · exact h pins s σ H x v vl vu lo hi sl Q I rx hs pl pu q
  · exact h' pins s σ H x v vl vu lo hi sl Q I rx hs pl pu q
noncomputable def tSl (r:V → Option Int → Option Int → Hp → VK → Prop) (te:TE) (tl th:TO):TE:=fun σ H Q=>te σ H fun x H1=>tl σ H1 fun l H2=>th σ H2 fun u H3=>r x l u H3 Q
theorem pe_slice {r:V → Option Int → Option Int → Hp → VK → Prop} (hr:SlR X r) (he:PE X e te) (hl:PO X lo tl) (hu:PO X hi th):PE X (.Subscript e (.Slice lo hi none p2) pos) (tSl r te tl th):=by
  intro pins s σ H Q I h
  refine Subscript_ (thn (he pins s σ H _ I h) fun v s1 zpat=>?_)
  obtain ⟨x,H1,I1,r1,q1⟩:=zpat
  refine wpAny_Slice (thn (hl pins s1 σ H1 _ I1 q1) fun vl s2 ⟨l,H2,I2,pl,q2⟩=>thn (hu pins s2 σ H2 _ I2 q2) fun vu s3 zpat=>?_)
  refine L2.o_EEAA (zpat) fun u H3 I3 pu q3=>?_
  rw [evalPart_none]
  refine wpAny_pure ?_
  have I4:Inv X pins σ H3 { s3 with heap:=s3.heap.push { cls:=.type "slice",data:=.fields #[vl,vu,.none] } }:=I3.kept (t':=s3.toks) fun b ob q=>Heap.get?_push_of_some _ q
  refine L2.o_EEAA (hr pins { s3 with heap:=s3.heap.push { cls:=.type "slice",data:=.fields #[vl,vu,.none] } } σ H3 x v vl vu l u s3.heap.objs.size Q I4 r1 (Heap.IsSliceOf.new ..) pl pu q3) fun T id hT ht hg=>?_
  show wpAny (model X.prog X.w) X.A (subscriptTail e (.Slice lo hi none p2) v (.ref s3.heap.objs.size)) (EP X pins σ Q) X.xe { s3 with heap:=s3.heap.push { cls:=.type "slice",data:=.fields #[vl,vu,.none] } }
  exact tail_any (ops:=[.ref s3.heap.objs.size,v]) ht hT hg (by with_unfolding_all rfl)
noncomputable def cutV (xs:List V) (lo hi:Option Int):List V:=(xs.drop (HT.sIx xs.length 0 lo)).take (HT.sIx xs.length xs.length hi - HT.sIx xs.length 0 lo)
theorem cutV_length (xs:List V) (lo hi:Option Int):(cutV xs lo hi).length ≤ xs.length:=by
  unfold cutV
  rw [List.length_take,List.length_drop]
  omega
end
end L2
namespace L2
open PySem PySem.Spec PyProof.Rows
noncomputable def ixN (n:Nat) (i:Int):Option Nat:=if 0 ≤ i then (if i < n then some i.toNat else none) else if -(n:Int) ≤ i then some (i + n).toNat else none
noncomputable def atI {α:Type} (xs:List α) (i:Int):Option α:=(ixN xs.length i).bind fun j=>xs[j]?
theorem ixN_seq {n:Nat} {i:Int} {j:Nat} (h:ixN n i = some j):seqIndex? i n = some j ∧ j < n ∧ -(n:Int) ≤ i ∧ i < n:=by
  unfold ixN at h
  by_cases h0:0 ≤ i
  · rw [if_pos h0] at h
    by_cases h1:i < n
    · rw [if_pos h1] at h
      have e:i.toNat = j:=Option.some.inj h
      exact ⟨by rw [seqIndex_of h0 h1,e],by omega,by (clear e h1; omega),h1⟩
    · rw [if_neg h1] at h; cases h
  · rw [if_neg h0] at h
    by_cases h1:-(n:Int) ≤ i
    · rw [if_pos h1] at h
      have e:(i + n).toNat = j:=Option.some.inj h
      exact ⟨by rw [seqIndex_neg (by (clear e h1; omega)) h1,e],by omega,h1,by (clear e h1; omega)⟩
    · rw [if_neg h1] at h; cases h
theorem atI_get {α:Type} {xs:List α} {i:Int} {v:α} (h:atI xs i = some v):∃ j,seqIndex? i xs.length = some j ∧ xs[j]? = some v ∧ j < xs.length ∧ -(xs.length:Int) ≤ i ∧ i < xs.length:=by
  unfold atI at h
  cases e:ixN xs.length i with
  | none=>rw [e] at h; cases h
  | some j=>
    rw [e] at h
    refine L2.o_AAA (ixN_seq e) fun h1 h2 h3 h4=>?_
    exact ⟨j,h1,h,h2,h3,h4⟩
theorem atI_nat {α:Type} {xs:List α} {j:Nat} {v:α} (h:xs[j]? = some v):atI xs (j:Int) = some v:=by
  have hj:j < xs.length:=(List.getElem?_eq_some_iff.mp h).1
  have e:ixN xs.length (j:Int) = some j:=by
    unfold ixN
    rw [if_pos (by (clear hj h; omega)),if_pos (by (clear h; omega))]; simp
  unfold atI; rw [e]; exact h
noncomputable def PlainIx (b:Expr):Prop:=∀ o i,subscripted b false o i = operate [o,i] (getItem o i)
noncomputable def IxR (X:Cx) (r:R2):Prop:=
  ∀ (value slice:Expr) (pins:List (Addr × Obj)) (s:Shared) (σ:St) (H:Hp) (x y:V) (v u:Value) (Q:VK),Inv X pins σ H s → RelV x v → RelV y u → r x y H Q →
    subscripted slice false v u = operate [v,u] (getItem v u) → wpAny (model X.prog X.w) X.A (subscriptTail value slice v u) (EP X pins σ Q) X.xe s
noncomputable def MtR (X:Cx) (id:String) (r:V → List V → Hp → VK → Prop):Prop:=
  ∀ (pins:List (Addr × Obj)) (s:Shared) (σ:St) (H:Hp) (x:V) (xs:List V) (v:Value) (us:List Value) (Q:VK),Inv X pins σ H s → RelV x v → Vals xs us → r x xs H Q →
    wpAny (model X.prog X.w) X.A (call (.builtin id) (v :: us)) (EP X pins σ Q) X.xe s
section
variable {X:Cx} {a b:Expr} {ta tb:TE} {pos:Pos}
theorem IxR.or {r r':R2} (h:IxR X r) (h':IxR X r'):IxR X (fun x y H Q=>r x y H Q ∨ r' x y H Q):=by
  intro value slice pins s σ H x y v u Q I rx ry q hs
  rcases q with q | q
  · exact h value slice pins s σ H x y v u Q I rx ry q hs
  · exact h' value slice pins s σ H x y v u Q I rx ry q hs
theorem MtR.or {id:String} {r r':V → List V → Hp → VK → Prop} (h:MtR X id r) (h':MtR X id r'):MtR X id (fun x xs H Q=>r x xs H Q ∨ r' x xs H Q):=by
  intro pins s σ H x xs v us Q I rx rs q
  rcases q with q | q
  · exact h pins s σ H x xs v us Q I rx rs q
  · exact h' pins s σ H x xs v us Q I rx rs q
theorem pe_ix {r:R2} (hr:IxR X r) (ha:PE X a ta) (hb:PE X b tb) (hs:PlainIx b):PE X (.Subscript a b pos) (tOp r ta tb):=by
  intro pins s σ H Q I h
  exact Subscript_ (binT ha hb I h fun v u s2 x y H2 I2 rx ry q=>hr a b pins s2 σ H2 x y v u Q I2 rx ry q (hs _ _))
noncomputable def rIxL (K:PySem.W.Frag):R2:=fun x y H Q=>∃ p xs i v,x = .ref p ∧ y = .int i ∧ SqL K H p xs ∧ atI xs i = some v ∧ Q v H
noncomputable def rIxT (K:PySem.W.Frag):R2:=fun x y H Q=>∃ p xs i v,x = .ref p ∧ y = .int i ∧ SqT K H p xs ∧ atI xs i = some v ∧ Q v H
theorem ix_list:IxR X (rIxL X.K):=by
  intro value slice pins s σ H x y v u Q I rx ry h hs
  revert h
  refine fun zqq=>L2.o_EEEEAAAA zqq fun p xs i z zq4 zq5 hq he q=>?_
  clear zqq
  subst zq4
  subst zq5
  cases rx
  revert ry
  refine fun zqq=>L2.o_E zqq fun t zq1=>?_
  clear zqq
  subst zq1
  refine L2.o_EAA (I.list hq) fun its r pl hz=>?_
  refine L2.o_EAAAA (atI_get he) fun j h1 h2 h3 h4 h5=>?_
  refine L2.o_EA (r.get h2) fun w ew rw'=>?_
  have hl:=r.length
  have hn:=line63
  have fin:EP X pins σ Q w s:=⟨z,H,I,rw',q⟩
  by_cases h0:0 ≤ i
  · have hj:i.toNat = j:=by
      rw [seqIndex_of h0 h5] at h1
      exact Option.some.inj h1
    exact item_listR pl.isList h0 (by (clear hj h0 hl ew h4 h3 h2; omega)) (by rw [hj]; simpa using ew) fin hs
  · have hj:(i + (its.toArray.size:Int)).toNat = j:=by
      rw [seqIndex_neg (by (clear hn hl ew h5 h4 h3 h2 hz; omega)) h4] at h1
      rw [List.size_toArray,← hl]
      exact Option.some.inj h1
    exact subscriptTail_builtinR (x:=w) pl.isList.typeIs slot_list_getitem.lookup
      (wpAny_getItem_list_neg (Q:=fun r s'=>r = w ∧ EP X pins σ Q r s') pl.isList (by (clear hj hn hl ew h5 h4 h3 h2 hz; omega)) (by rw [List.size_toArray] <;> (clear hj h0 hn ew h5 h3 h2 hz; omega)) (by (clear hj h0 hl ew h5 h3 h2; omega)) (by rw [hj]; simpa using ew) ⟨rfl,fin⟩) hs
theorem ix_tup:IxR X (rIxT X.K):=by
  intro value slice pins s σ H x y v u Q I rx ry h hs
  revert h
  refine fun zqq=>L2.o_EEEEAAAA zqq fun p xs i z zq4 zq5 hq he q=>?_
  clear zqq
  subst zq4
  subst zq5
  cases rx
  revert ry
  refine fun zqq=>L2.o_E zqq fun t zq1=>?_
  clear zqq
  subst zq1
  refine L2.o_EAA (I.tuple hq) fun its r pl hz=>?_
  refine L2.o_EAAAA (atI_get he) fun j h1 h2 h3 h4 h5=>?_
  refine L2.o_EA (r.get h2) fun w ew rw'=>?_
  have hl:=r.length
  have hn:=line63
  have fin:EP X pins σ Q w s:=⟨z,H,I,rw',q⟩
  exact subscriptTail_builtinR (x:=w) pl.typeIs slot_tuple_getitem.lookup
    (getItem_tuple (j:=j) (Q:=fun r s'=>r = w ∧ EP X pins σ Q r s') pl (by (clear hl ew h5 h3 h2; omega)) (by (clear hl ew h4 h3 h2; omega)) (by rw [List.size_toArray,← hl]; exact h1) (by simpa using ew) ⟨rfl,fin⟩) hs
theorem Inv.lst {pins:List (Addr × Obj)} {σ:St} {H:Hp} {s:Shared} {p:Addr} {xs:List V} (I:Inv X pins σ H s) (h:H p = some (.lst xs)) :
    ∃ (its:List Value) (n:Nat),Vals xs its ∧ s.heap.get? p = some { cls:=.type "list",data:=.seq its.toArray n } ∧ xs.length ≤ sizeLine:=by
  refine L2.o_AEEA (I.hok p _ h) fun z its n r e=>?_
  exact L2.i_EEAA (its) (n) (r) (e) (z)
theorem slice_bounds (lo hi:Option Int) (n:Nat):(sliceBounds lo hi none n).1 = ((HT.sIx n 0 lo:Nat):Int) ∧ (sliceBounds lo hi none n).2.1 = ((HT.sIx n n hi:Nat):Int) ∧ (sliceBounds lo hi none n).2.2 = 1:=by
  refine ⟨?_,?_,rfl⟩
  · cases lo with
    | none=>simp [sliceBounds,HT.sIx]
    | some i=>
      simp only [sliceBounds,HT.sIx,Option.getD_none,show (1:Int) > 0 by decide,if_true]
      by_cases h:i < 0
      · simp only [h,if_true] <;> omega
      · simp only [h,if_false] <;> (clear h; omega)
  · cases hi with
    | none=>simp [sliceBounds,HT.sIx]
    | some i=>
      simp only [sliceBounds,HT.sIx,Option.getD_none,show (1:Int) > 0 by decide,if_true]
      by_cases h:i < 0
      · simp only [h,if_true] <;> omega
      · simp only [h,if_false] <;> (clear h; omega)
theorem slicePick_cut (its:List Value) (lo hi:Option Int):slicePick its.toArray lo hi none = ((its.drop (HT.sIx its.length 0 lo)).take (HT.sIx its.length its.length hi - HT.sIx its.length 0 lo)).toArray:=by
  refine L2.o_AA (slice_bounds lo hi its.toArray.size) fun h1 h2 h3=>?_
  unfold slicePick
  rw [h1,h2,h3]
  simp only [sliceRange_one,pick_run,List.size_toArray] <;> rfl
noncomputable def rSlL (K:PySem.W.Frag):V → Option Int → Option Int → Hp → VK → Prop:=fun x lo hi H Q=>∃ a xs,x = .ref a ∧ SqL K H a xs ∧ ∀ p,H p = none → Q (.ref p) (upd H p (.lst (cutV xs lo hi)))
theorem sl_list:SlR X (rSlL X.K):=by
  intro pins s σ H x v vl vu lo hi sl Q I rx hs pl pu h
  revert h
  refine fun zqq=>L2.o_EEAA zqq fun a xs zq2 hx q=>?_
  clear zqq
  subst zq2
  cases rx
  refine L2.o_EAA (I.list hx) fun its r ht hz=>?_
  have hlen:=r.length
  refine L2.i_EEAA ("list") (_) (slot_list_getitem.lookup) (ht.isList.typeIs) ?_
  refine wpAny_getItem_list_slice ht.isList hs pl pu .none (by simp) ?_ (by rw [List.size_toArray] <;> omega)
  rw [slicePick_cut,← hlen]
  refine ⟨.ref s.heap.objs.size,_,I.laid (t':=s.toks) (o:=.lst (cutV xs lo hi)) (fun b ob q=>Heap.get?_push_of_some _ q) (Nat.le_refl _) ?_,rfl,q _ (I.hok.fresh (Nat.le_refl _))⟩
  exact L2.i_AEEA (Nat.le_trans (cutV_length xs lo hi) hz) (_) (0) ((r.drop (HT.sIx xs.length 0 lo)).take (HT.sIx xs.length xs.length hi - HT.sIx xs.length 0 lo)) (Heap.get?_push_size _ rfl)
theorem call_len_seq:CallR X (.builtin "len") (fun xs H Q=>∃ p ys,xs = [.ref p] ∧ (SqL X.K H p ys ∨ SqT X.K H p ys) ∧ Q (.int ys.length) H):=by
  intro pins s σ H xs us Q I r h
  revert h
  refine fun zqq=>L2.o_EEAA zqq fun p ys zq2 hq q=>?_
  clear zqq
  subst zq2
  refine L2.o_EA (vals1 r) fun u zq1 rx=>?_
  subst zq1
  cases rx
  have hn:=line63
  rcases hq with hq | hq
  · refine L2.o_EAA (I.list hq) fun its r' pl hz=>?_
    have hlen:=r'.length
    exact Calls.call_len_list pl.isList (by simp only [List.size_toArray] <;> omega) ⟨.int ys.length,H,I.tok _,⟨s.toks + 1,by rw [List.size_toArray,hlen]⟩,q⟩
  · refine L2.o_EAA (I.tuple hq) fun its r' pl hz=>?_
    have hlen:=r'.length
    exact len_tuple pl (by simp only [List.size_toArray] <;> omega) ⟨.int ys.length,H,I.tok _,⟨s.toks + 1,by rw [List.size_toArray,hlen]⟩,q⟩
theorem CallR.or {f:Value} {r r':List V → Hp → VK → Prop} (h:CallR X f r) (h':CallR X f r'):CallR X f (fun xs H Q=>r xs H Q ∨ r' xs H Q):=by
  intro pins s σ H xs us Q I rs q
  rcases q with q | q
  · exact h pins s σ H xs us Q I rs q
  · exact h' pins s σ H xs us Q I rs q
theorem call_list_of:CallR X (.type "list") (fun xs H Q=>∃ p ys,xs = [.ref p] ∧ (SqL X.K H p ys ∨ SqT X.K H p ys) ∧ ∀ l,H l = none → Q (.ref l) (upd H l (.lst ys))):=by
  intro pins s σ H xs us Q I r h
  revert h
  refine fun zqq=>L2.o_EEAA zqq fun p ys zq2 hq q=>?_
  clear zqq
  subst zq2
  refine L2.o_EA (vals1 r) fun u zq1 rx=>?_
  subst zq1
  cases rx
  have fin:∀ (its:List Value),Vals ys its → ys.length ≤ sizeLine → ∀ (h':Heap) (c':Nat),(∀ b o',s.heap.get? b = some o' → h'.get? b = some o') →
      h'.get? s.heap.objs.size = some { cls:=.type "list",dict:=none,data:=.seq its.toArray c',slots:=#[] } → EP X pins σ Q (.ref s.heap.objs.size) { s with heap:=h' }:=fun its r' hz h' c' kp e=>
    ⟨.ref s.heap.objs.size,_,I.laid (t':=s.toks) kp (Nat.le_refl _) (show ObjOk X.prog X.w _ h' _ (.lst ys) from ⟨hz,its,c',r',e⟩),rfl,q _ (I.hok.fresh (Nat.le_refl _))⟩
  rcases hq with hq | hq
  · refine L2.o_EAA (I.list hq) fun its r' pl hz=>?_
    have hlen:=r'.length
    refine L2.o_EAAE (pl.isList) fun o ho hc n hd=>?_
    exact call_list_seq p (.inl rfl) ho hc hd (fun h' c' kp e=>fin its r' hz h' c' kp e) (by simp only [List.size_toArray] <;> (clear fin; omega))
  · refine L2.o_EAA (I.tuple hq) fun its r' pl hz=>?_
    have hlen:=r'.length
    refine L2.o_EAAE (pl) fun o ho hc n hd=>?_
    exact call_list_seq p (.inr rfl) ho hc hd (fun h' c' kp e=>fin its r' hz h' c' kp e) (by simp only [List.size_toArray] <;> (clear fin; omega))
noncomputable def tyV (K:PySem.W.Frag) (T:String) (x:V) (H:Hp):Prop:=match x with
  | .str _=>T = "str"
  | .int _=>T = "int"
  | .ref p=>(T = "list" ∧ ∃ xs,SqL K H p xs) ∨ (T = "tuple" ∧ ∃ o,K.lookup p = some o ∧ o.cls = .type "tuple" ∧ o.dict = none) ∨
      (T = "dict" ∧ ((∃ kvs,H p = some (.dK kvs)) ∨ ∃ kvs,H p = some (.dT kvs))) ∨ (T = "set" ∧ ∃ S n,H p = some (.set S n))
  | _=>False
theorem tyV_is {pins:List (Addr × Obj)} {σ:St} {H:Hp} {s:Shared} {T:String} {x:V} {v:Value} (I:Inv X pins σ H s) (r:RelV x v) (ty:tyV X.K T x H) :
    s.TypeIs v T ∧ ∀ a,v = .ref a → ∃ ob,s.heap.get? a = some ob ∧ ob.dict = none:=by
  cases x with
  | str z=>
    revert r
    refine fun zqq=>L2.o_E zqq fun t zq1=>?_
    clear zqq
    subst zq1
    cases (show T = "str" from ty)
    exact ⟨typeIs_str s z t,fun _ e=>nomatch e⟩
  | int i=>
    revert r
    refine fun zqq=>L2.o_E zqq fun t zq1=>?_
    clear zqq
    subst zq1
    cases (show T = "int" from ty)
    exact ⟨typeIs_int s i t,fun _ e=>nomatch e⟩
  | ref p=>
    cases r
    rcases ty with ⟨rfl,xs,hq⟩ | ⟨rfl,o,hk,hc,hd⟩ | ⟨rfl,hk⟩ | ⟨rfl,S,n,hk⟩
    · refine L2.o_EAA (I.list hq) fun its _ pl _=>?_
      refine ⟨pl.isList.typeIs,fun a e=>?_⟩
      cases e
      refine L2.o_EEAAA (pl) fun o n e c hd _=>?_
      exact ⟨o,e,hd⟩
    · refine ⟨⟨o,I.kIn p o hk,hc⟩,fun a e=>?_⟩
      cases e
      exact ⟨o,I.kIn _ o hk,hd⟩
    · have z:∃ o,s.heap.get? p = some o ∧ o.ExactDict:=by
        rcases hk with ⟨kvs,hk⟩ | ⟨kvs,hk⟩
        · refine L2.o_AAEAEEEAA (I.hok p _ hk) fun _ _ _ _ o _ _ e ex _=>?_
          exact ⟨o,e,ex⟩
        · refine L2.o_AAEAEEEAA (I.hok p _ hk) fun _ _ _ _ o _ _ e ex _=>?_
          exact ⟨o,e,ex⟩
      refine L2.o_EA (z) fun o e ex=>?_
      refine ⟨⟨o,e,ex.1⟩,fun a e2=>?_⟩
      cases e2
      exact ⟨o,e,ex.2.1⟩
    · refine L2.o_EEEEAA (I.hok p _ hk) fun o _ _ _ e ex _=>?_
      refine ⟨⟨o,e,ex.1⟩,fun a e2=>?_⟩
      cases e2
      exact ⟨o,e,ex.2.1⟩
  | _=>exact False.elim ty
noncomputable def tBM0 (K:PySem.W.Frag) (T:String) (r:V → List V → Hp → VK → Prop) (to:TE):TE:=fun σ H Q=>to σ H fun x H1=>tyV K T x H1 ∧ r x [] H1 Q
noncomputable def tBM (K:PySem.W.Frag) (T:String) (r:V → List V → Hp → VK → Prop) (to:TE) (t:TA):TE:=fun σ H Q=>to σ H fun x H1=>tyV K T x H1 ∧ t σ H1 fun xs H2=>r x xs H2 Q
variable {o e:Expr} {es:List Expr} {to:TE} {t:TA} {name:Str} {apos cpos:Pos} {T id:String} {r:V → List V → Hp → VK → Prop}
theorem pe_bm0 (pa:PlainAttrs T) (slot:Slot T name id) (hty:typeOf (.builtin id) = pure (.type "method_descriptor")) (hm:MtR X id r) (ho:PE X o to)
    (hbase:autoParam (attributeBase o name X.env (eval o X.env) = eval o X.env) L2.ar._auto_1) (hline:autoParam ((apos.endLine == cpos.line) = true) L2.ar._auto_1):PE X (.Call (.Attribute o name apos) [] [] cpos) (tBM0 X.K T r to):=by
  intro pins s σ H Q I h
  refine wpAny_Call_method0_late hbase hline (thn (ho pins s σ H _ I h) fun v s1 zpat=>?_)
  obtain ⟨x,H1,I1,r1,ty,q1⟩:=zpat
  refine L2.o_A (tyV_is I1 r1 ty) fun h1 h2=>?_
  exact L2.i_EEAAAAA (T) (id) (pa) (slot) (hty) (h1) (h2) (Calls.callWith_builtin rfl (PySem.evalArgs_none (hm pins s1 σ H1 x [] v [] Q I1 r1 .nil q1)))
theorem pe_bm (pa:PlainAttrs T) (slot:Slot T name id) (hty:typeOf (.builtin id) = pure (.type "method_descriptor")) (hm:MtR X id r) (ho:PE X o to) (ha:PA X (e :: es) t)
    (hbase:autoParam (attributeBase o name X.env (eval o X.env) = eval o X.env) L2.ar._auto_1)
    (hfew:autoParam (((backTo cpos (starEach (e :: es) X.env)).all (fun x=>!x.1) && (backToKw cpos (keywordEach [] X.env)).all (fun x=>x.1.isSome)
      && decide ((e :: es).length + ([]:List Keyword).length + (if ([]:List Keyword).isEmpty then 0 else 1) < 30)) = true) L2.ar._auto_1)
    (hline:autoParam ((apos.endLine == cpos.line) = true) L2.ar._auto_1) (hs:autoParam (starEach (e :: es) X.env = (false,eval e X.env) :: starEach es X.env) L2.ar._auto_1) (hplain:autoParam ((backTo cpos (starEach es X.env)).any (·.1) = false) L2.ar._auto_1) :
    PE X (.Call (.Attribute o name apos) (e :: es) [] cpos) (tBM X.K T r to t):=by
  intro pins s σ H Q I h
  refine wpAny_Call_method_late hbase hfew hline rfl (thn (ho pins s σ H _ I h) fun v s1 zpat=>?_)
  obtain ⟨x,H1,I1,r1,ty,q1⟩:=zpat
  refine L2.o_A (tyV_is I1 r1 ty) fun h1 h2=>?_
  refine L2.i_EEAAAAA (T) (id) (pa) (slot) (hty) (h1) (h2) ?_
  have hA:=ha cpos pins s1 σ H1 _ I1 q1
  rw [hs] at hA ⊢
  refine Calls.callWith_builtin (by show (false || (backTo cpos (starEach es X.env)).any (·.1)) = false; rw [hplain] <;> rfl) (Calls.evalArgs_plain ?_)
  exact thn hA fun us s2 ⟨vs,H2,I2,r2,q2⟩=>hm pins s2 σ H2 x vs v us Q I2 r1 r2 q2
/- xs.append(e),list.index on a module's tuple .. are MtR facts of 06m -/
end
end L2
namespace L2
open PySem PySem.Spec PyProof.Rows
noncomputable def MtM (X:Cx) (id:String) (r:V → List V → Hp → VK → Prop):Prop:=
  ∀ (pins:List (Addr × Obj)) (s:Shared) (σ:St) (H:Hp) (x:V) (xs:List V) (v:Value) (us:List Value) (Q:VK),Inv X pins σ H s → RelV x v → Vals xs us → r x xs H Q →
    wpAny (model X.prog X.w) X.A (call (.builtin id) (v :: us)) (EP X pins σ Q) X.xe s
theorem Vals.one {x:V} {us:List Value} (h:Vals [x] us):∃ u,us = [u] ∧ RelV x u:=by
  cases h with
  | cons r t=>cases t; exact ⟨_,rfl,r⟩
theorem Vals.two {x y:V} {us:List Value} (h:Vals [x,y] us):∃ u v,us = [u,v] ∧ RelV x u ∧ RelV y v:=by
  cases h with
  | cons r t=>
    refine L2.o_EA (Vals.one t) fun u zq1 q=>?_
    subst zq1
    exact L2.i_EEAA (_) (_) (rfl) (r) (q)
theorem Vals.zero:∀ {us:List Value},Vals [] us → us = []
  | _,.nil=>rfl
theorem Vals.dropLast {xs:List V} {us:List Value} (h:Vals xs us):Vals xs.dropLast us.dropLast:=by
  induction h with
  | nil=>exact .nil
  | cons r t ih=>
    cases t with
    | nil=>exact .nil
    | cons q t'=>exact .cons r ih
theorem Vals.eraseIdx:∀ {xs:List V} {us:List Value} (i:Nat),Vals xs us → Vals (xs.eraseIdx i) (us.eraseIdx i)
  | _,_,_,.nil=>.nil
  | _,_,0,.cons _ t=>t
  | _,_,i + 1,.cons r t=>.cons r (Vals.eraseIdx i t)
theorem Vals.reverse {xs:List V} {us:List Value} (h:Vals xs us):Vals xs.reverse us.reverse:=by
  induction h with
  | nil=>exact .nil
  | cons r t ih=>rw [List.reverse_cons,List.reverse_cons]; exact Vals.append ih (.cons r .nil)
theorem erase_last {α:Type} (l:List α):l.eraseIdx (l.length - 1) = l.dropLast:=by
  induction l with
  | nil=>rfl
  | cons a r ih=>
    cases r with
    | nil=>rfl
    | cons b r=>
      have e:(a :: b :: r).length - 1 = ((b :: r).length - 1) + 1:=rfl
      rw [e,List.eraseIdx_cons_succ,ih]
      all_goals rfl
section
variable {X:Cx} {pins:List (Addr × Obj)} {σ:St} {H:Hp} {s:Shared} {l b:Addr} {xs ys zs:List V}
theorem Inv.lset {its its':List Value} {n:Nat} {f:Array Value → Array Value} {t':Nat} (I:Inv X pins σ H s) (hH:H l = some (.lst xs))
    (e:s.heap.get? l = some { cls:=.type "list",data:=.seq its.toArray n }) (hf:f its.toArray = its'.toArray) (hv:Vals ys its') (hz:ys.length ≤ sizeLine) :
    Inv X pins σ (upd H l (.lst ys)) { s with heap:=s.heap.update l (Obj.mapSeq f),toks:=t' }:=by
  have q:=PySem.IsL.update e f
  rw [hf] at q
  refine I.write (x:=l) (e:=l) (by rw [hH]; exact trivial) (.inl rfl) (fun b' u hb hu=>(Heap.get?_update_other s.heap (Obj.mapSeq f) (Ne.symm hb)).trans hu) ⟨_,q⟩ ?_
  exact L2.i_AEEA (hz) (its') (_) (hv) (q)
theorem Inv.fresh (I:Inv X pins σ H s):H s.heap.objs.size = none:=I.hok.fresh (Nat.le_refl _)
theorem Inv.lstM (I:Inv X pins σ H s) (hH:H l = some (.lst xs)):xs.length ≤ sizeLine ∧ ∃ (its:List Value) (n:Nat),Vals xs its ∧ xs.length = its.length ∧ s.heap.get? l = some { cls:=.type "list",data:=.seq its.toArray n }:=by
  refine L2.o_AEEA (I.hok l _ hH) fun z its n r e=>?_
  exact L2.i_AEEAA (z) (its) (n) (r) (r.length) (e)
theorem notLongL {n:Nat} (h:n ≤ sizeLine):Builtin.List.listTooLong n = false:=by
  unfold Builtin.List.listTooLong
  exact decide_eq_false (by omega)
end
section
variable {X:Cx}
noncomputable def rAppend:V → List V → Hp → VK → Prop:=fun x vs H Q=>∃ l xs y,x = .ref l ∧ vs = [y] ∧ H l = some (.lst xs) ∧ xs.length < sizeLine ∧ Q .non (upd H l (.lst (xs ++ [y])))
theorem mt_append:MtM X "list.append" rAppend:=by
  intro pins s σ H x vs v us Q I rx rv h
  revert h
  refine fun zqq=>L2.o_EEEAAAA zqq fun l xs y zq3 zq4 hH hz q=>?_
  clear zqq
  subst zq3
  subst zq4
  cases rx
  refine L2.o_EA (rv.one) fun u zq1 ru=>?_
  subst zq1
  refine L2.o_AEEAA (I.lstM hH) fun z its n r hl e=>?_
  refine call_meets F.slot_list_append ⟨_,e,rfl⟩ F.entry_list_append (F.args_list_append_2 _ _) (PySem.list_append l its.toArray n u (by rw [List.size_toArray]; (clear z; omega))) ⟨e,?_⟩
  refine ⟨.non,_,I.lset (its':=its ++ [u]) hH e (by simp) (r.append (.cons ru .nil)) ?_,rfl,q⟩
  rw [List.length_append,List.length_singleton]
  (clear hl z; omega)
noncomputable def rExtend:V → List V → Hp → VK → Prop:=fun x vs H Q=>∃ l b xs zs,x = .ref l ∧ vs = [.ref b] ∧ H l = some (.lst xs) ∧ H b = some (.lst zs) ∧ xs.length + zs.length ≤ sizeLine ∧ Q .non (upd H l (.lst (xs ++ zs)))
theorem mt_extend:MtM X "list.extend" rExtend:=by
  intro pins s σ H x vs v us Q I rx rv h
  revert h
  refine fun zqq=>L2.o_EEEEAAAAA zqq fun l b xs zs zq4 zq5 hH hB hz q=>?_
  clear zqq
  subst zq4
  subst zq5
  cases rx
  refine L2.o_EA (rv.one) fun u zq1 ru=>?_
  subst zq1
  cases ru
  refine L2.o_AEEAA (I.lstM hH) fun z its n r hl e=>?_
  refine L2.o_AEEAA (I.lstM hB) fun z2 its2 n2 r2 hl2 e2=>?_
  have hsz:its.toArray.size + its2.toArray.size ≤ sizeLine:=by rw [List.size_toArray,List.size_toArray]; (clear z2 z; omega)
  have hlong:¬ (!its.toArray.isEmpty && Builtin.List.listTooLong (its.toArray.size + its2.toArray.size)) = true:=by
    rw [notLongL hsz,Bool.and_false]
    exact Bool.false_ne_true
  refine call_meets F.slot_list_extend ⟨_,e,rfl⟩ F.entry_list_extend (F.args_list_extend_2 _ _)
    (AutoSeq1.list_extend_list_list_0 l its.toArray n b its2.toArray n2 hlong (by rw [List.size_toArray]; (clear hsz hl2 z2 z; omega)) (by (clear hl2 z2 hl z hz; omega))) ⟨e,e2,?_⟩
  refine ⟨.non,_,I.lset (its':=its ++ its2) hH e (by simp) (r.append r2) ?_,rfl,q⟩
  rw [List.length_append]
  (clear hsz hl2 z2 hl z; omega)
noncomputable def rPop:V → List V → Hp → VK → Prop:=fun x vs H Q=>∃ l xs y,x = .ref l ∧ vs = [] ∧ H l = some (.lst xs) ∧ xs[xs.length - 1]? = some y ∧ Q y (upd H l (.lst xs.dropLast))
theorem mt_pop:MtM X "list.pop" rPop:=by
  intro pins s σ H x vs v us Q I rx rv h
  revert h
  refine fun zqq=>L2.o_EEEAAAA zqq fun l xs y zq3 zq4 hH hy q=>?_
  clear zqq
  subst zq3
  subst zq4
  cases rx
  have hus:=rv.zero
  subst hus
  refine L2.o_AEEAA (I.lstM hH) fun z its n r hl e=>?_
  refine L2.o_EA (r.get hy) fun u hu ru=>?_
  have hy':its.toArray[its.toArray.size - 1]? = some u:=by
    show its.toArray[its.length - 1]? = some u
    rw [← Array.getElem?_toList,← hl]
    exact hu
  refine call_meets F.slot_list_pop ⟨_,e,rfl⟩ F.entry_list_pop (F.args_list_pop_1 _) (MeetsSeq.list_pop_last l its.toArray n u hy' (by rw [List.size_toArray]; (clear hy' hu hy; omega))) ⟨e,?_⟩
  refine ⟨y,_,I.lset (its':=its.dropLast) hH e ?_ r.dropLast ?_,ru,q⟩
  · show its.toArray.eraseIdxIfInBounds (its.toArray.size - 1) = its.dropLast.toArray
    rw [List.size_toArray,List.eraseIdxIfInBounds_toArray,erase_last]
  · rw [List.length_dropLast]
    (clear hy' hu hl hy; omega)
end
section
variable {prog:Program} {w:World} {A:Around} {E:Value → Shared → Prop} {s:Shared}
end
section
variable {X:Cx}
end
end L2
namespace Att
open PySem PySem.W PySem.Calls PyProof.Rows
theorem ints_of_wellAll {P:Params} {h:Heap}:∀ (ns:List Int) (vs:List Value),WellAll P h vs (ns.map WData.int) → IntsAre vs ns:=by
  intro ns
  induction ns with
  | nil=>
    intro vs w
    rw [List.map_nil] at w
    cases w
    exact .nil
  | cons n ns ih=>
    intro vs w
    rw [List.map_cons] at w
    cases w with
    | cons a b=>
      cases a
      exact .cons _ _ (ih _ b)
theorem script_of {l:OpenLaw} {n:Nat} (hn:l.most = some n) {P:Params} {h:Heap} {args:List WData} {vals:List Value}
    (hpre:l.row.toRowW.claim.pre args = true) (hwl:WellAll P h vals args) :
    ∃ a vs ns,vals = [Value.ref a] ∧ args = [WData.list (ns.map WData.int)] ∧ h.get? a = some { cls:=.type "list",data:=.seq vs.toArray } ∧ IntsAre vs ns ∧ ns.length ≤ n:=by
  have hsh:WShape.hasAll [] args [.list .int] = true:=(pre_splitW hpre).1
  have hc:l.pre.holds [] { args:=args } = true:=(pre_splitW hpre).2
  refine L2.o_EEAA (hasAllW_cons hsh) fun d r zq2 h1 h2=>?_
  subst zq2
  obtain rfl:=hasAllW_nil h2
  refine L2.o_EA (hasW_list h1) fun xs zq1 h3=>?_
  subst zq1
  refine L2.o_E (items_int h3) fun ns zq1=>?_
  subst zq1
  have hlen:ns.length ≤ n:=by
    unfold OpenLaw.pre at hc
    have h4:(WTm.not (.lt (.lit (.int (n:Int))) (.len (.arg 0)))).holds [] { args:=[.list (ns.map .int)] } = true:=by
      have h4:=(holds_andW hc).1
      rw [hn] at h4
      exact h4
    have h5:=condW_of h4 (w_not (w_lt w_lit (w_len_list (w_arg rfl))))
    rw [List.length_map] at h5
    refine Nat.le_of_not_lt fun q=>?_
    have q':(n:Int) < ((ns.length:Nat):Int):=by (clear h5; omega)
    first
      | (rw [decide_eq_true q'] at h5; exact absurd h5 (by decide))
      | (simp at h5; omega)
  cases hwl with
  | cons w1 w2=>
    cases w2
    cases w1 with
    | list ho hall=>exact ⟨_,_,ns,rfl,rfl,ho,ints_of_wellAll ns _ hall,hlen⟩
theorem post_true (l:OpenLaw) (args:List WData):l.row.toRowW.claim.post args (.bool true) args = true:=
  postW_of (r:=l.row.toRowW) (X:=(true == true))
    (show WShape.has [] (.bool true) .bool = true by first | rfl | decide | simp [WShape.has,WShape.arms,WShape.armsAll])
    (show (WTm.eq .res (.lit (.bool true))).value [] { args:=args,res:=some (.bool true),after:=args } = some (.bool (true == true)) from w_eq_bool (w_res rfl) w_lit) rfl
theorem attach_call {l:OpenLaw} {n:Nat} {q:Program} {loose:List Str} {XP:(Str → Option Value) → Heap → Prop} {YP:World → Heap → Prop} {d:DefRec}
    (hn:l.most = some n) (hdf:d.params.defaults = [])
    (call:∀ (w:World) (s₀ s₁:Shared) (mg mb:Str → Option Value) (fa:Addr) (o:Obj) (pm cd doc:Value) (a:Addr) (vs:List Value) (ns:List Int),
      Ground q loose [] XP w s₀ mg mb s₁.heap → YP w s₁.heap →
      s₁.heap.get? fa = some o → o.data = .func (docDef d.name d.params d.body d.scope pm cd doc) → s₁.heap.CodeRec cd d.name → mg d.name = some (.ref fa) →
      s₁.heap.get? a = some { cls:=.type "list",data:=.seq vs.toArray } → IntsAre vs ns → ns.length ≤ n → s₁.gens = #[] →
      codeAny (model l.prog w) callerA (.call (.ref fa) ⟨[.ref a],[]⟩) (fun r s'=>r = .ok (.ret (.bool true)) ∧ OldK s₁.heap s'.heap ∧ s'.os = s₁.os ∧ AllBare s'.gens) s₁) :
    WalkO q loose XP YP l.row.toRowW d [] (fun f vs=>PySem.call f vs):=by
  intro w s₀ s₁ mg mb G Y fa o pm cd doc dV kV ho hd hcd hD hmg hg args vals as hpre hlay hrd hwl hlo
  obtain rfl:dV = .none:=Dflts.none hD hdf
  obtain rfl:kV = .none:=Dflts.noKw hD
  refine L2.o_EEEAAAA (script_of hn hpre hwl) fun a vs ns zq3 zq4 hobj hints hlen=>?_
  subst zq3
  subst zq4
  refine enter_call (codeAny_mono (call w s₀ s₁ mg mb fa o pm cd doc a vs ns G Y ho (fd_plain hd) hcd hmg hobj hints hlen hg) fun r s' hq=>?_)
  revert hq
  refine fun zqq=>L2.o_AAA zqq fun zq0 h2 h3 h4=>?_
  clear zqq
  subst zq0
  exact ⟨.inl ⟨.bool true,.bool true,[],rfl,fun _=>rfl,.bool true,post_true l _,fun _=>⟨List.Pairwise.nil,fun _ hm=>(nomatch hm)⟩⟩,h2,h3,h4⟩
section
variable {prog:Program} {w:World} {A:Around} {E:Value → Shared → Prop} {s:Shared} {K:Frag}
end
end Att
namespace L2
open PySem PySem.Spec PyProof.Rows
theorem vals_ints {vs:List Value} {ns:List Int} (h:IntsAre vs ns):Vals (ns.map V.int) vs:=by
  induction h with
  | nil=>exact .nil
  | cons n t h ih=>exact .cons ⟨t,rfl⟩ ih
end L2
namespace L2
open PySem PySem.Spec PyProof.Rows
noncomputable abbrev KOf {K:PySem.W.Frag} {h:Heap} (_:K.In h):PySem.W.Frag:=K
end L2
namespace L2
open PySem PySem.Spec PyProof.Rows
noncomputable def defArgs (s:Stmt):Arguments:=match s with
  | .FunctionDef _ a _ _ _ _ _ _ _ _=>a
  | _=>{ posonlyargs:=[],args:=[],vararg:=none,kwonlyargs:=[],kw_defaults:=[],kwarg:=none,defaults:=[] }
noncomputable def defBody (s:Stmt):List Stmt:=match s with
  | .FunctionDef _ _ b _ _ _ _ _ _ _=>b
  | _=>[]
noncomputable def defScope (s:Stmt):Scope:=match s with
  | .FunctionDef _ _ _ _ _ _ sc _ _ _=>sc
  | _=>{ kind:=.function,names:=[],isGenerator:=false,isCoroutine:=false }
noncomputable abbrev CX0:CXT:=fun _ _ _ _ _ _=>False
noncomputable abbrev E0:XK:=fun _ _ _=>False
theorem pass0 {X:Cx}:Passes CX0 X E0:=fun _ _ _ _ _ _ _ h=>h.elim
structure Fun (K:PySem.W.Frag) (x qual:Str) (st:Stmt) (f:Addr) (fd:FuncData):Prop where
  ex:∃ (oc:Value) (od:Option Addr) (kV doc pm:Value) (an:Option Addr) (cdv ct:Value) (osl:Array (Option Value)),
    fd = PySem.W.fnOf x qual (defArgs st) (defBody st) (defScope st) .none kV doc pm an cdv ct ∧ K.lookup f = some ⟨oc,od,.func fd,osl⟩ ∧ PySem.W.codeIn K cdv qual = true
  kp:PySem.W.keepIn K (.ref f) = true
section
variable {P:Program} {w:World} {K:PySem.W.Frag} {mg:Str → Option Value} {base:Heap}
theorem Fun.ok {x qual:Str} {st:Stmt} {f:Addr} {fd:FuncData} {N ps:List Str} {k:Nat} {sp:Sp} (F:Fun K x qual st f fd) (S:FnScope N ps (defScope st)) (len:∀ vs H Q E,sp vs H Q E → vs.length = ps.length)
    (hbody:∀ (cdv:Value) (A:Around) (outer:List Env) (s:Shared) (H:Hp) (vs:List V) (Q:VK) (E:XK),Room k (A.deeper (envOfC qual (defScope st) s.heap.objs.size f cdv)) → sp vs H Q E →
      ∃ t,PSs (cxOf CX0 P w K mg base N qual (defScope st) f cdv A outer s H E).nox (defBody st) t ∧ t { nx:=fun _ H'=>Q .non H',rt:=Q } (start N vs) H):FnOk P w K mg base CX0 (k + 1) f fd ps sp:=by
  refine L2.o_EEEEEEEEEAA (F.ex) fun oc od kV doc pm an cdv ct osl zq9 lk hcd=>?_
  subst zq9
  refine fn_of lk hcd S len fun A outer s H vs Q E hr hsp=>?_
  refine L2.o_EA (hbody cdv A outer s H vs Q E hr hsp) fun t h q=>?_
  exact ⟨t,h.nox,q⟩
theorem Fun.binds {x qual:Str} {st:Stmt} {f:Addr} {fd:FuncData} {ps:List Str} (F:Fun K x qual st f fd)
    (h:∀ (kV doc pm:Value) (an:Option Addr) (cdv ct:Value) (us:List Value),us.length = ps.length → bindArgs (PySem.W.fnOf x qual (defArgs st) (defBody st) (defScope st) .none kV doc pm an cdv ct) ⟨us,[]⟩ = pure (ps.zip us)):Binds K fd ps []:=by
  refine L2.o_EEEEEEEEEAA (F.ex) fun oc od kV doc pm an cdv ct osl zq9 lk hcd=>?_
  subst zq9
  exact .all (h kV doc pm an cdv ct)
theorem fun_mk {x qual:Str} {st:Stmt} {f:Addr} {oc:Value} {od an:Option Addr} {osl:Array (Option Value)} {kV doc pm cdv ct:Value} (l:K.lookup f = some ⟨oc,od,.func (PySem.W.fnOf x qual (defArgs st) (defBody st) (defScope st) .none kV doc pm an cdv ct),osl⟩)
    (c:PySem.W.codeIn K cdv qual = true) (k:PySem.W.keepIn K (.ref f) = true):Fun K x qual st f (PySem.W.fnOf x qual (defArgs st) (defBody st) (defScope st) .none kV doc pm an cdv ct):=⟨⟨oc,od,kV,doc,pm,an,cdv,ct,osl,rfl,l,c⟩,k⟩
end
theorem small1000 {n:Nat} (h:n ≤ 1000):n < sizeLine:=Nat.lt_of_le_of_lt h (by decide)
section
variable {X:Cx}
theorem pv (i:Nat) {x:Str} {pos:Pos} (hN:autoParam (X.N[i]? = some x) L2.ar._auto_1) (hv:Vis X.env.scope x:=by first | exact Or.inl rfl | exact Or.inr (Or.inl rfl) | exact Or.inr (Or.inr rfl)) (hd:autoParam ((x == ("__debug__":Str)) = false) L2.ad._auto_1)
    (hcd:autoParam ((x == ("__classdict__":Str)) = false) L2.ad._auto_1):PE X (.Name x pos) (tVar i):=pe_var hN hv hd hcd
end
noncomputable def Same (H H':Hp):Prop:=∀ b o,H b = some o → H' b = some o
theorem Same.refl (H:Hp):Same H H:=fun _ _ h=>h
theorem Same.trans {H H1 H2:Hp} (a:Same H H1) (b:Same H1 H2):Same H H2:=fun c o h=>b c o (a c o h)
theorem Same.free {H H':Hp} (e:Same H H') {l:Addr} (h:H' l = Option.none):H l = Option.none:=by
  cases q:H l with
  | none=>rfl
  | some o=>
    rw [e l o q] at h
    exact L2.no_sn h
theorem Same.seq {K:PySem.W.Frag} {H H':Hp} {a:Addr} {xs:List V} (e:Same H H') (h:SqL K H a xs):SqL K H' a xs:=by
  rcases h with (h | ⟨o,h⟩) | h
  · exact .inl (.inl (e _ _ h))
  · exact .inl (.inr ⟨o,e _ _ h⟩)
  · exact .inr h
end L2
namespace L2
open PySem PySem.Spec PyProof.Rows
noncomputable def TabAt (P:Program) (K:PySem.W.Frag) (p:Addr):Prop:=∃ x c,x ∈ lamNames P ∧ PySem.W.tabIn K x = some (c,p)
open Classical in
theorem law_callT {P:Program} {w:World} {K:PySem.W.Frag} {mg mb:Str → Option Value} {CX:CXT} {k:Nat} {fa a:Addr} {fd:FuncData} {x:Str} {sp:Sp} {s₁:Shared} {vs:List Value} {ns:List Int}
    (KX:K.In s₁.heap) (hns:s₁.heap.Ns mainGlobals mg) (hb:s₁.heap.Ns builtinsNs mb) (hbb:∀ x:Str,x ≠ "__name__" → mb x = bootBuiltins x) (hlim:s₁.heap.NoLimit) (hg:s₁.gens = #[])
    (ha:s₁.heap.get? a = some { cls:=.type "list",data:=.seq vs.toArray }) (hi:IntsAre vs ns) (hl:ns.length ≤ sizeLine) (hr:Room k callerA)
    (hT:∀ x c p,x ∈ lamNames P → PySem.W.tabIn K x = some (c,p) → PySem.W.CodeHd s₁.heap c p ∧ s₁.heap.get? p = some (PySem.W.tabObj #[])) (hTK:∀ x c p,x ∈ lamNames P → PySem.W.tabIn K x = some (c,p) → K.lookup p = none)
    (hBm:∃ bm ob,mg "__builtins__" = some (.ref bm) ∧ bm ≠ builtinsNs ∧ s₁.heap.get? bm = some ob ∧ ob.cls = .type "module" ∧ ob.dict = some builtinsNs ∧ ob.data = .plain)
    (F:∀ base:Heap,K.In base → base.Ns mainGlobals mg → FnOk P w K mg base CX k fa fd [x] sp) (hbind:∀ (s:Shared) (u:Value),BindsTo s fd ⟨[u],[]⟩ [(x,u)])
    (hsp:∀ H:Hp,SqL K H a (ns.map V.int) → sp [.ref a] H (fun v _=>v = .bl true) fun _ _ _=>False)
    (hCX:∀ H e s',CX [] H s₁ (fun _ _ _=>False) e s' → False) :
    codeAny (model P w) callerA (.call (.ref fa) ⟨[.ref a],[]⟩) (fun r s'=>r = .ok (.ret (.bool true)) ∧ OldK s₁.heap s'.heap ∧ s'.os = s₁.os ∧ AllBare s'.gens) s₁:=by
  have rv:=vals_ints hi
  have lenV:=hi.length
  have objT:∀ {b:Addr},TabAt P K b → s₁.heap.get? b = some (PySem.W.tabObj #[]):=fun {b} ⟨y,c,h1,h2⟩=>(hT y c b h1 h2).2
  have aT:¬ TabAt P K a:=fun z=>by have q:=objT z; rw [ha] at q; cases q
  have core:∀ H:Hp,SqL K H a (ns.map V.int) → HOk P w H s₁.heap → (∀ b u,H b = some u → (b = a ∧ ∃ o xs,u = .frz o (.lst xs)) ∨ (u = .tab ∧ TabAt P K b)) → (∀ b,TabAt P K b → H b = some .tab) → (H a ≠ none → K.lookup a = none) →
      codeAny (model P w) callerA (.call (.ref fa) ⟨[.ref a],[]⟩) (fun r s'=>r = .ok (.ret (.bool true)) ∧ OldK s₁.heap s'.heap ∧ s'.os = s₁.os ∧ AllBare s'.gens) s₁:=by
    intro H hS hok hA hTt hK
    have base_of:∀ {b:Addr} {o:Obj},s₁.heap.get? b = some o → H b = none → (hidT s₁.heap H).get? b = some o:=fun e n=>hidT_get e n
    have free_of:∀ {b:Addr} {o:Obj},s₁.heap.get? b = some o → o ≠ { cls:=.type "list",data:=.seq vs.toArray } → o ≠ PySem.W.tabObj #[] → H b = none:=fun {b o} e n1 n2=>by
      cases q:H b with
      | none=>rfl
      | some u=>
        rcases hA b u q with ⟨rfl,_⟩ | ⟨_,z⟩
        · rw [ha] at e; exact absurd (Option.some.inj e).symm n1
        · have:=objT z; rw [e] at this; exact absurd (Option.some.inj this) n2
    have noA:∀ {b:Addr} {o:Obj} {es:Array DictEntry} {ep:Nat},s₁.heap.get? b = some o → o.data = .dict es ep → H b = none:=fun {b o es ep} e d=>free_of e (fun z=>by rw [z] at d; cases d) (fun z=>by rw [z] at d; cases d)
    have nsK:∀ {b:Addr} {m:Str → Option Value},s₁.heap.Ns b m → (hidT s₁.heap H).Ns b m:=fun {b m} ⟨o,es,ep,e,d,r⟩=>⟨o,es,ep,base_of e (noA e d),d,r⟩
    have hKb:K.In (hidT s₁.heap H):=fun b o e=>base_of (KX b o e) (by
      cases q:H b with
      | none=>rfl
      | some u=>
        rcases hA b u q with ⟨rfl,_⟩ | ⟨_,y,c,h1,h2⟩
        · rw [hK (by rw [q]; simp)] at e; cases e
        · rw [hTK y c b h1 h2] at e; cases e)
    have hM:Mod K mg (hidT s₁.heap H):=⟨hKb,nsK hns,⟨mb,nsK hb,hbb⟩,let ⟨mc,h1,h2⟩:=hlim; ⟨mc,nsK h1,h2⟩⟩
    have hTb:TabsOk P K mg (hidT s₁.heap H) H:=fun y c p h1 h2=>by
      have hp:=(hT y c p h1 h2).2
      refine ⟨hTt p ⟨y,c,h1,h2⟩,?_,?_⟩
      · refine L2.o_EEEEEEEEEAA ((hT y c p h1 h2).1) fun o vs' file tf flags tg inF text tt e1 e2 r=>?_
        exact L2.i_EEEEEEEEEAA (o) (vs') (file) (tf) (flags) (tg) (inF) (text) (tt) (base_of e1 (free_of e1 (fun z=>by rw [z] at e2; exact absurd e2 (by simp)) fun z=>by rw [z] at e2; exact absurd e2 (by simp))) (e2) (r)
      · refine L2.o_EEAAAAA (hBm) fun bm ob b1 b2 b3 b4 b5 b6=>?_
        refine L2.i_EEAAAAAAA (bm) (ob) (b1) (b2) (fun q=>?_) (fun q=>?_) (base_of b3 (free_of b3 (fun z=>by rw [z] at b4; exact absurd b4 (by simp)) fun z=>by rw [z] at b4; exact absurd b4 (by simp))) (b4) (b5) (b6)
        · refine L2.o_EEEAA (hns) fun o es ep e hd _=>?_
          rw [q,e] at b3; cases b3; rw [hd] at b6; cases b6
        · rw [q,hp] at b3; cases b3; cases b4
    have e0:Env0 P w K mg (hidT s₁.heap H) callerA [] s₁ H:=⟨rfl,hM,fun b o e=>of_hidT e,Nat.le_of_eq (hidT_size _ _),trivial,fun b hb=>absurd (show b ∈ ([]:List Addr) from hb) (by simp),hok,.of_eq hg,hTb⟩
    refine codeAny_mono ((F _ hKb (nsK hns)).run callerA [] s₁ H ⟨[.ref a],[]⟩ [.ref a] [.ref a] _ _ hr e0 (hbind s₁ (.ref a)) (.cons rfl .nil) (hsp H hS)) fun r s' h=>?_
    cases r with
    | error e=>exact (hCX H e s' h).elim
    | ok fl=>
      cases fl with
      | next=>exact False.elim h
      | brk=>exact False.elim h
      | cont=>exact False.elim h
      | ret u=>
        refine L2.o_EEAAAAA (h) fun v H' os bare un hok' r' q=>?_
        have q':v = .bl true:=q
        subst q'
        obtain rfl:u = Value.bool true:=r'
        have all:∀ b o,s₁.heap.get? b = some o → asItWas s₁.heap s'.heap b o ∧ ∃ o',s'.heap.get? b = some o':=fun b o e=>by
          cases q:H b with
          | none=>
            have z:=un.keep b o e q (by intro z; exact absurd (show b ∈ ([]:List Addr) from z) (by simp)) (by simp)
            exact ⟨.inl z,o,z⟩
          | some u=>
            rcases hA b u q with ⟨_,ob,xs,rfl⟩ | ⟨rfl,y,c,h1,h2⟩
            · have z2:=un.frzs b ob _ q
              refine L2.o_A (hok b _ q) fun e1 _=>?_
              refine L2.o_A (hok' b _ z2) fun e2 _=>?_
              rw [e] at e1; cases e1
              exact ⟨.inl e2,o,e2⟩
            · refine L2.o_EA (hok' b _ (un.tabs b q)) fun ps e2 _=>?_
              refine L2.o_A (hT y c b h1 h2) fun hc hp=>?_
              rw [hp] at e; cases e
              exact ⟨.inr (.inl ⟨(hc.tab hp).isCodeTable,rfl,#[],ps,rfl,by rw [e2]; simp⟩),_,e2⟩
        exact ⟨rfl,⟨fun b o e=>(all b o e).1,fun b o e=>(all b o e).2⟩,os,bare⟩
  have okT:∀ (H:Hp) (b:Addr),TabAt P K b → ObjOk P w H s₁.heap b .tab:=fun H b z=>⟨#[],objT z,trivial,fun pos c q=>by cases q⟩
  cases hk:K.lookup a with
  | some o=>
    have e:=KX a o hk
    rw [ha] at e
    obtain rfl:=Option.some.inj e
    refine core (fun b=>if TabAt P K b then some .tab else none) (.inr ⟨_,vs.toArray,_,hk,rfl,rfl,rfl,by rw [List.size_toArray,lenV]; exact hl,by simpa using rv⟩) (fun b u z=>?_) (fun b u z=>?_) (fun b z=>if_pos z) fun z=>absurd (if_neg aT) z
    · by_cases hb:TabAt P K b
      · have z':=(if_pos hb).symm.trans z
        obtain rfl:=Option.some.inj z'
        exact okT _ b hb
      · have z':=(if_neg hb).symm.trans z
        exact L2.no_ns z'
    · by_cases hb:TabAt P K b
      · have z':=(if_pos hb).symm.trans z
        obtain rfl:=Option.some.inj z'
        exact .inr ⟨rfl,hb⟩
      · have z':=(if_neg hb).symm.trans z
        exact L2.no_ns z'
  | none=>
    refine core (fun b=>if b = a then some (.frz { cls:=.type "list",data:=.seq vs.toArray } (.lst (ns.map V.int))) else if TabAt P K b then some .tab else none) (.inl (.inr ⟨{ cls:=.type "list",data:=.seq vs.toArray },if_pos rfl⟩)) (fun b u z=>?_) (fun b u z=>?_) (fun b z=>?_) fun _=>hk
    · by_cases hb:b = a
      · have z':=(if_pos hb).symm.trans z
        obtain rfl:=Option.some.inj z'
        subst hb
        exact L2.i_AAEEA (ha) (by rw [List.length_map]; exact hl) (vs) (_) (rv) (ha)
      · have z':=(if_neg hb).symm.trans z
        by_cases hb2:TabAt P K b
        · have z2:=(if_pos hb2).symm.trans z'
          obtain rfl:=Option.some.inj z2
          exact okT _ b hb2
        · have z2:=(if_neg hb2).symm.trans z'
          exact L2.no_ns z2
    · by_cases hb:b = a
      · have z':=(if_pos hb).symm.trans z
        obtain rfl:=Option.some.inj z'
        exact .inl ⟨hb,_,_,rfl⟩
      · have z':=(if_neg hb).symm.trans z
        by_cases hb2:TabAt P K b
        · have z2:=(if_pos hb2).symm.trans z'
          obtain rfl:=Option.some.inj z2
          exact .inr ⟨rfl,hb2⟩
        · have z2:=(if_neg hb2).symm.trans z'
          exact L2.no_ns z2
    · have hb:b ≠ a:=fun e=>aT (e ▸ z)
      rw [if_neg hb,if_pos z]
theorem walk_ofT {l:PySem.W.OpenLaw} {n k:Nat} {q:Program} {loose:List Str} {XP:(Str → Option Value) → Heap → Prop} {YP:World → Heap → Prop} {d:DefRec} {K:Params → PySem.W.Frag} {CX:World → CXT} {sp:World → Sp} {x:Str}
    (hn:l.most = some n) (hn2:n ≤ sizeLine) (hdf:d.params.defaults = []) (hr:Room k callerA)
    (hY:∀ (w:World) (h:Heap),YP w h → (K w.params).In h)
    (hq:∀ y ∈ lamNames l.prog,((recsOf q).find? fun e=>e.name == y).isSome = true) (hTK:∀ (w:World) (y:Str) (c p:Addr),y ∈ lamNames l.prog → PySem.W.tabIn (K w.params) y = some (c,p) → (K w.params).lookup p = none)
    (F:∀ (w:World) (mg:Str → Option Value) (fa:Addr) (h:Heap),(K w.params).In h → h.Ns mainGlobals mg → mg d.name = some (.ref fa) →
      ∃ fd:FuncData,(∀ (s:Shared) (u:Value),BindsTo s fd ⟨[u],[]⟩ [(x,u)]) ∧
        ∀ base:Heap,(K w.params).In base → base.Ns mainGlobals mg → FnOk l.prog w (K w.params) mg base (CX w) k fa fd [x] (sp w))
    (hsp:∀ (w:World) (H:Hp) (a:Addr) (ns:List Int),ns.length ≤ n → SqL (K w.params) H a (ns.map V.int) → sp w [.ref a] H (fun v _=>v = .bl true) fun _ _ _=>False)
    (hCX:∀ (w:World) (H:Hp) (s:Shared) (e:Value) (s':Shared),CX w [] H s (fun _ _ _=>False) e s' → False) :
    PySem.W.WalkO q loose XP YP l.row.toRowW d [] (fun f vs=>PySem.call f vs):=by
  refine Att.attach_call hn hdf fun w s₀ s₁ mg mb fa o pm cd doc a vs ns G Y ho hd hcd hmg hobj hints hlen hg=>?_
  have KX:=hY w _ Y
  refine L2.o_EA (F w mg fa _ KX G.T.g hmg) fun fd hb hF=>?_
  refine law_callT KX G.T.g G.T.b G.T.builtins G.T.nolimit hg hobj hints (Nat.le_trans hlen hn2) hr (fun y c p h1 h2=>?_) (hTK w) G.T.bmain hF hb (fun H hS=>hsp w H a ns hlen hS) fun H e s'=>hCX w H s₁ e s'
  refine L2.o_E (Option.isSome_iff_exists.mp (hq y h1)) fun r hr'=>?_
  exact PySem.W.tab_of G.T KX hr' h2
end L2
namespace L2
open PySem PySem.Spec PyProof.Rows
end L2
namespace L2
open PySem PySem.Spec PyProof.Rows
theorem forIn_pureStep {α β:Type} {f:α → β → Sem (ForInStep β)} {g:β → α → β}:∀ (l:List α) (b:β),(∀ x ∈ l,∀ b,f x b = pure (ForInStep.yield (g b x))) → forIn l b f = (pure (l.foldl g b):Sem β)
  | [],b,_=>rfl
  | x :: r,b,h=>by
    rw [List.forIn_cons,h x List.mem_cons_self b]
    simp only [pure_bind,List.foldl_cons]
    exact forIn_pureStep r (g b x) fun y hy=>h y (List.mem_cons_of_mem _ hy)
noncomputable def cloStep (env:Env) (b:List (Str × Addr)) (x:Str × NameKind):List (Str × Addr):=if x.2 == .free then (x.1,(env.cells.lookup x.1).getD 0) :: b else b
noncomputable def cloOf (scope:Scope) (env:Env):List (Str × Addr):=scope.names.foldl (cloStep env) []
theorem closure_is {scope:Scope} {env:Env} (h:∀ x ∈ scope.names,x.2 = .free → ∃ c,env.cells.lookup x.1 = some c):closureFor scope env = pure (cloOf scope env):=by
  simp only [closureFor]
  rw [forIn_pureStep (g:=cloStep env) scope.names [] ?_]
  · rfl
  · rintro ⟨n,k⟩ hx b
    unfold cloStep
    by_cases hk:(k == NameKind.free) = true
    · refine L2.o_E (h (n,k) hx (by simpa using hk)) fun c hc=>?_
      simp only [hk,if_true,cellOf,hc,Option.getD_some,pure_bind]
    · simp only [hk,Bool.false_eq_true,if_false]
theorem clo_mem {env:Env}:∀ (l:List (Str × NameKind)) (b:List (Str × Addr)) (p:Str × Addr),p ∈ l.foldl (cloStep env) b → p ∈ b ∨ ∃ x ∈ l,x.2 = .free ∧ p = (x.1,(env.cells.lookup x.1).getD 0)
  | [],b,p,h=>.inl h
  | x :: r,b,p,h=>by
    rcases clo_mem r (cloStep env b x) p h with q | ⟨y,hy,e⟩
    · unfold cloStep at q
      by_cases hk:(x.2 == NameKind.free) = true
      · rw [if_pos hk] at q
        rcases List.mem_cons.mp q with q | q
        · exact .inr ⟨x,List.mem_cons_self,by simpa using hk,q⟩
        · exact .inl q
      · rw [if_neg hk] at q
        exact .inl q
    · exact .inr ⟨y,List.mem_cons_of_mem _ hy,e⟩
theorem clo_old {env:Env}:∀ (l:List (Str × NameKind)) (b:List (Str × Addr)) (p:Str × Addr),p ∈ b → p ∈ l.foldl (cloStep env) b
  | [],b,p,h=>h
  | x :: r,b,p,h=>clo_old r _ p (by unfold cloStep; split; exact List.mem_cons_of_mem _ h; exact h)
theorem clo_new {env:Env} (l:List (Str × NameKind)):∀ (b:List (Str × Addr)) (x:Str × NameKind),x ∈ l → x.2 = .free → (x.1,(env.cells.lookup x.1).getD 0) ∈ l.foldl (cloStep env) b:=by
  induction l with
  | nil=>exact fun b x h=>absurd h List.not_mem_nil
  | cons y r ih=>
    intro b x h e
    rcases List.mem_cons.mp h with rfl | h
    · refine clo_old r _ _ ?_
      unfold cloStep
      rw [if_pos (by rw [e]; rfl)]
      exact List.mem_cons_self
    · exact ih _ x h e
theorem lookup_mem {l:List (Str × Addr)} {n:Str} {c:Addr} (h:(n,c) ∈ l):∃ d,l.lookup n = some d:=by
  induction l with
  | nil=>cases h
  | cons p r ih=>
    obtain ⟨m,d⟩:=p
    by_cases e:n = m
    · subst e
      exact ⟨d,by simp [List.lookup_cons]⟩
    · rcases List.mem_cons.mp h with q | q
      · cases q
        exact absurd rfl e
      · refine L2.o_E (ih q) fun d' q'=>?_
        exact ⟨d',by rw [List.lookup_cons,show (n == m) = false by simpa using e]; exact q'⟩
theorem clo_in {scope:Scope} {env:Env} (h:∀ x ∈ scope.names,x.2 = .free → ∃ c,env.cells.lookup x.1 = some c) {n:Str} {c:Addr} (e:(cloOf scope env).lookup n = some c):env.cells.lookup n = some c:=by
  rcases clo_mem scope.names [] (n,c) (PySem.mem_of_lookup e) with q | ⟨x,hx,hf,q⟩
  · cases q
  · refine L2.o_E (h x hx hf) fun d hd=>?_
    cases q
    rw [hd]
    rfl
theorem clo_has {scope:Scope} {env:Env} {n:Str} (h:(n,NameKind.free) ∈ scope.names):∃ c,(cloOf scope env).lookup n = some c:=
  lookup_mem (clo_new scope.names [] (n,.free) h rfl)
structure CompSc (sc:Scope) (XN:List Str) (scope:Scope) (k:Nat) (N:List Str) (ix:List Nat):Prop where
  kind:scope.kind = .function
  okind:sc.kind = .function
  nocell:∀ y ∈ scope.names,y.2 ≠ .cell
  loc:∀ y ∈ scope.names,y.2 = .local → scope.names.lookup y.1 = some .local
  fr:∀ y ∈ scope.names,y.2 = .free → sc.names.lookup y.1 = some .cell
  sl:ix.map (fun i=>XN[i]?) = (N.drop k).map some
  frl:∀ x ∈ N.drop k,scope.names.lookup x = some .free
  len:N.length = k + ix.length
noncomputable def cxComp (X:Cx) (N:List Str) (scope:Scope) (cl:List (Str × Addr)) (C:Addr) (s3:Shared) (H3:Hp) (fp:List Addr) (pins:List (Addr × Obj)):Cx:=
  { X with N:=N,s₀:=s3,H₀:=H3,env:=compEnvC scope cl C X.env,outer:=X.stack,stack:=X.stack,ex:=fp,fn:=fun _=>false,pn:=X.pn ++ pins }
theorem relabel_free {scope:Scope} {env:Env} {x:Str} (hk:env.scope.kind = .function) (he:env.kindOf x = some .cell) (h:scope.names.lookup x = some .free):(relabel scope env).names.lookup x = some .cell:=by
  have go:∀ names:List (Str × NameKind),names.lookup x = some .free →
      (names.map fun (n,k)=>if (k == NameKind.free && env.scope.kind == .function && env.kindOf n == some .cell) then (n,NameKind.cell) else (n,k)).lookup x = some .cell:=by
    intro names
    induction names with
    | nil=>intro h; cases h
    | cons p r ih=>
      obtain ⟨n,k⟩:=p
      intro h
      rw [List.map_cons]
      by_cases e:x = n
      · subst e
        have hkf:k = .free:=by simpa [List.lookup_cons] using h
        subst hkf
        simp [List.lookup_cons,hk,he]
      · have e':(x == n) = false:=by simpa using e
        rw [List.lookup_cons,e'] at h
        have q:=ih h
        dsimp only
        split
        · rw [List.lookup_cons,e']
          exact q
        · rw [List.lookup_cons,e']
          exact q
  exact go _ h
theorem relabel_mem {scope:Scope} {env:Env} {x:Str} {k:NameKind} (hc:∀ y ∈ scope.names,y.2 ≠ .cell) (h:(relabel scope env).names.lookup x = some k) (hk:k = .cell ∨ k = .free):(x,NameKind.free) ∈ scope.names:=by
  obtain ⟨⟨n,k'⟩,hm,e⟩:=List.mem_map.mp (PySem.mem_of_lookup h)
  dsimp only at e
  split at e
  · rename_i hq
    cases e
    have:k' = .free:=by
      have:=(Bool.and_eq_true_iff.mp (Bool.and_eq_true_iff.mp hq).1).1
      simpa using this
    subst this
    exact hm
  · cases e
    rcases hk with rfl | rfl
    · exact absurd rfl (hc _ hm)
    · exact hm
section
variable {X:Cx} {pins:List (Addr × Obj)} {σ:St} {H:Hp} {s:Shared} {scope:Scope} {k:Nat} {N:List Str} {ix:List Nat} {sc:Scope} {fp:List Addr}
theorem comp_cells (I:Inv X pins σ H s) (hsc:X.env.scope = sc) (S:CompSc sc X.N scope k N ix):∀ x ∈ scope.names,x.2 = .free → ∃ c,X.env.cells.lookup x.1 = some c:=fun x hx hf=>
  I.ok.has x.1 (.inl (by show X.env.scope.names.lookup x.1 = _; rw [hsc]; exact S.fr x hx hf))
theorem fp_stk (I:Inv X pins σ H s) {b:Addr} (h1:b ≠ X.env.locals) (h2:b ∉ X.fs):b ∉ frs X.stack:=fun hb=>by
  rcases List.mem_cons.mp (I.stkSub b hb) with e | e
  · exact h1 e
  · exact h2 e
theorem comp_ok (I:Inv X pins σ H s) (hsc:X.env.scope = sc) (S:CompSc sc X.N scope k N ix) (hf:∀ b ∈ fp,FpOk X pins H b) (hlt:∀ b ∈ fp,b < s.heap.objs.size) :
    (cxComp X N scope (cloOf scope X.env) s.heap.objs.size s H fp pins).Ok:=by
  have hcl:=comp_cells I hsc S
  refine ⟨I.ok.mod,S.kind,I.ok.glob,I.ok.blt,Nat.le_refl _,fun x y c h1 h2=>I.ok.inj x y c (clo_in hcl h1) (clo_in hcl h2),fun x hx=>?_,fun x c h=>(by cases (show false = true from h)),I.ok.hd,I.ok.frames,.inl rfl,fun b hb=>⟨Nat.ne_of_lt (hlt b hb),fun x c e=>?_⟩,
    I.bs,Nat.le_trans I.ok.bsz I.sz,fun b o e hb=>?_,fun b hb=>fp_stk I (hf b hb).2.1 (hf b hb).2.2.1,I.stack,I.stkFree,fun x c p h1 h2=>let z:=I.ok.tabs x c p h1 h2; ⟨I.base.tabs p z.1,z.2⟩⟩
  · have hx':(x,NameKind.free) ∈ scope.names:=by
      rcases hx with hx | hx
      · exact relabel_mem S.nocell hx (.inl rfl)
      · exact relabel_mem S.nocell hx (.inr rfl)
    exact clo_has hx'
  · exact (hf b hb).2.2.2.2.1 x c (clo_in hcl e)
  · rcases (hf b hb).2.2.2.1 with z | z
    · exact I.ok.noex b o e z
    · exact absurd (Nat.lt_of_lt_of_le (Heap.lt_size (I.ok.bs b o e).1) z) (Nat.lt_irrefl _)
noncomputable def stComp (k:Nat) (ix:List Nat) (σ:St):St:=List.replicate k none ++ ix.map fun i=>(σ[i]?).getD none
theorem comp_start (I:Inv X pins σ H s) (hsc:X.env.scope = sc) (S:CompSc sc X.N scope k N ix) (hf:∀ b ∈ fp,FpOk X pins H b) (hlt:∀ b ∈ fp,b < s.heap.objs.size) {h':Heap} {t:Nat} {m:Str → Option Value}
    (hns:h'.Ns s.heap.objs.size m) (hk:∀ b o,s.heap.get? b = some o → h'.get? b = some o) :
    Inv (cxComp X N scope (cloOf scope X.env) s.heap.objs.size s H fp pins) [] (stComp k ix σ) H { s with heap:=h',toks:=t }:=by
  have hcl:=comp_cells I hsc S
  have hkind:X.env.scope.kind = .function:=by rw [hsc]; exact S.okind
  have cellK:∀ c v,s.heap.IsCell c v → h'.IsCell c v:=fun c v ⟨o,e,d⟩=>⟨o,hk c o e,d⟩
  refine ⟨comp_ok I hsc S hf hlt,rfl,I.bare,Un.kept hk,⟨m,hns,fun i x v e1 e2 e3=>?_⟩,fun x c e=>?_,I.hok.fresh (Nat.le_refl _),fun x c e=>(I.freeC x c (clo_in hcl e)).imp id fun z=>⟨rfl,z.2⟩,fun p hp=>?_,I.hok.kept hk,?_⟩
  · unfold stComp at e2
    by_cases hi:i < k
    · rw [List.getElem?_append_left (by simpa using hi),List.getElem?_replicate,if_pos hi] at e2
      cases e2
    · have hj:k ≤ i:=Nat.le_of_not_lt hi
      rw [List.getElem?_append_right (by simpa using hj),List.getElem?_map] at e2
      simp only [List.length_replicate] at e2
      cases hix:ix[i - k]? with
      | none=>rw [hix] at e2; cases e2
      | some j=>
        rw [hix] at e2
        have e2':(σ[j]?).getD none = some v:=Option.some.inj e2
        have hσ:σ[j]? = some (some v):=by
          cases q:σ[j]? with
          | none=>rw [q] at e2'; cases e2'
          | some w=>rw [q] at e2'; exact congrArg some e2'
        have hd:(N.drop k)[i - k]? = some x:=by
          rw [List.getElem?_drop]
          have:k + (i - k) = i:=by (clear hσ e2' hix e2 hj e1 hlt; omega)
          rw [this]
          exact e1
        have hXN:X.N[j]? = some x:=by
          have q:=congrArg (fun l=>l[i - k]?) S.sl
          simp only [List.getElem?_map,hix,hd,Option.map_some] at q
          exact Option.some.inj q
        have hfree:=S.frl x (List.mem_of_getElem? hd)
        have hmem:=PySem.mem_of_lookup hfree
        have hout:X.env.kindOf x = some .cell:=by
          show X.env.scope.names.lookup x = _
          rw [hsc]
          exact S.fr _ hmem rfl
        refine L2.o_EA (I.loc) fun m0 hn0 hl0=>?_
        refine L2.o_EA (hl0 j x v hXN hσ (.inr (.inl hout))) fun u r l=>?_
        refine ⟨u,r,.inr ⟨.inl (relabel_free hkind hout hfree),?_⟩⟩
        rcases l with ⟨q,_⟩ | ⟨_,c,hc,z⟩
        · rw [hout] at q; cases q
        · refine L2.o_E (clo_has (env:=X.env) hmem) fun c' hc'=>?_
          have e':=clo_in hcl hc'
          rw [hc] at e'
          obtain rfl:=Option.some.inj e'
          exact ⟨c,hc',cellK c _ z⟩
  · refine L2.o_E (I.cell x c (clo_in hcl e)) fun v z=>?_
    exact ⟨v,cellK c v z⟩
  · have hp':p ∈ X.pn ++ pins:=by simpa [cxComp] using hp
    refine L2.o_AAAA (I.pin p hp') fun e n ne nf d=>?_
    exact ⟨hk _ _ e,n,Nat.ne_of_lt (Heap.lt_size e),fp_stk I ne nf,d⟩
  · unfold stComp
    show _ = N.length
    rw [S.len,List.length_append,List.length_replicate,List.length_map]
theorem Un.other {fs ex:List Addr} {H H':Hp} {h h1 h2:Heap} (u:Un fs ex H H' h h1) (e:∀ b,b < h.objs.size → h2.get? b = h1.get? b):Un fs ex H H' h h2 where
  keep:=fun b o q n hb hx=>(e b (Heap.lt_size q)).trans (u.keep b o q n hb hx)
  slot:=fun b o q n hb hx=>by obtain ⟨sl,z⟩:=u.slot b o q n hb hx; exact ⟨sl,(e b (Heap.lt_size q)).trans z⟩
  free:=u.free
  there:=fun b o q hx=>by obtain ⟨o',z⟩:=u.there b o q hx; exact ⟨o',(e b (Heap.lt_size q)).trans z⟩
  tups:=u.tups
  frzs:=u.frzs
  tbls:=u.tbls
  tabs:=u.tabs
theorem comp_after {σ':St} {H':Hp} {s':Shared} {h':Heap} {scope:Scope} {cl:List (Str × Addr)} (I:Inv X pins σ H s) (hf:∀ b ∈ fp,FpOk X pins H b)
    (J:Inv (cxComp X N scope cl s.heap.objs.size s H fp pins) [] σ' H' s') (hs:Heap.SameBut s.heap.objs.size s'.heap h'):Inv X pins σ H' { s' with heap:=h' }:=by
  have un:Un (frs X.stack) fp H H' s.heap s'.heap:=J.base
  have fr:H' s.heap.objs.size = none:=J.free
  refine I.call' (s':={ s' with heap:=h' }) (ch:=fp) J.os (un.other fun b hb=>hs.2 b (Nat.ne_of_lt hb)) (fun b o e=>?_) J.bare fun b hb=>⟨(hf b hb).2.2.2.1,(hf b hb).2.1,(hf b hb).2.2.2.2.1,(hf b hb).2.2.2.2.2⟩
  refine (J.hok b o e).stay (fun c u hc q=>(hs.2 c ?_).trans q) (fun _ q=>q) fun _ _ q=>q
  rcases hc with hc | hc
  · rw [hc]; exact ne_of_none e fr
  · exact ne_of_none hc fr
end
noncomputable def tTrue:TT:=fun _ H Q=>Q true H
noncomputable def PIf (X:Cx) (ifs:List Expr) (t:TT):Prop:=
  ∀ (pins:List (Addr × Obj)) (s:Shared) (σ:St) (H:Hp) (Q:Bool → Hp → Prop),Inv X pins σ H s → t σ H Q →
    wpAny (model X.prog X.w) X.A (forIn ifs true fun c r=>if r = true then do let ok ← isTrue c X.env (eval c X.env); pure (ForInStep.yield ok) else pure (ForInStep.yield r)) (TP X pins σ Q) X.xe s
theorem pif_nil {X:Cx}:PIf X [] tTrue:=fun pins s σ H Q I h=>wpAny_tests_nil ⟨H,I,h⟩
theorem comp_loop {prog:Program} {w:World} {A:Around} {R:Result → Shared → Prop} {s:Shared} {elt target iter:Expr} {ifs:List Expr} {scope:Scope} {pos:Pos} {it acc:Value} {env:Env} (J:Nat → Shared → Prop)
    (turn:∀ n s,J n s → wpAny (model prog w) A (pyNext it) (fun r s1=>match r with
      | none=>R (.ok .next) s1
      | some v=>wpAny (model prog w) A (letOwnedTupleGo target it v) (fun _ s1'=>wpAny (model prog w) A (assign target env v) (fun _ s2=>
          wpAny (model prog w) A (forIn ifs true fun c r=>if r = true then do let ok ← isTrue c env (eval c env); pure (ForInStep.yield ok) else pure (ForInStep.yield r)) (fun ok s3=>
            if ok = true then wpAny (model prog w) A (eval elt env) (fun x s4=>
              wpAny (model prog w) A (call (.builtin "list.append") [acc,x]) (fun _ s5=>∃ m,m < n ∧ J m s5) (fun _ _=>False) s4) (fun _ _=>False) s3
            else ∃ m,m < n ∧ J m s3) (fun _ _=>False) s2) (fun _ _=>False) s1') (fun _ _=>False) s1) (fun _ _=>False) s)
    (n:Nat) (h:J n s):codeAny (model prog w) A (.compLoop (.ListComp elt [⟨target,iter,ifs,0⟩] scope pos) 0 it acc env) R s:=by
  refine codeAny_loop rfl J (fun n s hJ=>?_) n h
  show wpAny _ A ((compTurn (.ListComp elt [⟨target,iter,ifs,0⟩] scope pos) 0 it acc env).onRaise _) _ _ s
  refine wpAny_noted ?_
  rw [compTurn_list]
  refine wpAny_bind (wpAny_standAt (wpAny_bind (wpAny_mono (turn n s hJ) (fun r s1 h1=>?_) fun _ _ z=>False.elim z)))
  cases r with
  | none=>exact wpAny_pure h1
  | some v=>
    refine wpAny_bind (wpAny_mono h1 (fun _ s1' h1'=>wpAny_bind (wpAny_mono h1' (fun _ s2 h2=>wpAny_bind (wpAny_mono h2 (fun ok s3 h3=>?_) fun _ _ z=>False.elim z)) fun _ _ z=>False.elim z)) fun _ _ z=>False.elim z)
    cases ok with
    | false=>exact wpAny_pure ⟨rfl,h3⟩
    | true=>
      refine wpAny_bind (wpAny_bind (wpAny_mono h3 (fun x s4 h4=>wpAny_bind (wpAny_mono h4 (fun _ s5 h5=>?_) fun _ _ z=>False.elim z)) fun _ _ z=>False.elim z))
      exact wpAny_pure (wpAny_pure ⟨rfl,h5⟩)
noncomputable def tComp (wi:TI) (g:TG) (tc:TT) (te:TE) (st:St → St):TE:=fun σ H Q=>wi σ H fun J H1=>∀ D,H1 D = none → ∃ W:Nat → Nat → St → Hp → Prop,(∃ m,W 0 m (st σ) (upd H1 D (.lst []))) ∧ ∀ i m τ H2,W i m τ H2 →
  (J.stop i H2 ∧ Q (.ref D) H2) ∨ (J.go i H2 ∧ ∃ N:St → Hp → Prop,(∀ τ' H',N τ' H' → ∃ m',m' < m ∧ W (i + 1) m' τ' H') ∧ ∀ x H3,J.yld i H2 x H3 → g x τ H3 fun τ2 H4=>tc τ2 H4 fun b H5=>
    if b = true then te τ2 H5 fun y H6=>∃ ys,H6 D = some (.lst ys) ∧ ys.length < sizeLine ∧ N τ2 (upd H6 D (.lst (ys ++ [y]))) else N τ2 H5)
theorem comp_run {Y:Cx} {elt tg iter:Expr} {ifs:List Expr} {scope:Scope} {pos:Pos} {g:TG} {tc:TT} {te:TE} {R:Result → Shared → Prop} {it D:Addr} {fp:List Addr} {tn:Nat → Heap → Prop} {J:It} {W:Nat → Nat → St → Hp → Prop} {Q:VK}
    (hx:Y.xe = fun _ _=>False) (hc:Y.calm = true) (hg:PG Y tg g) (ht:PIf Y ifs tc) (he:PE Y elt te) (T:Turn Y.prog Y.w Y.K tg J fp it tn) (fok:∀ {H':Hp},(∀ b ∈ fp,H' b = none) → ∀ b ∈ fp,FpOk Y [] H' b)
    (turn:∀ i m τ H2,W i m τ H2 → (J.stop i H2 ∧ Q (.ref D) H2) ∨ (J.go i H2 ∧ ∃ N:St → Hp → Prop,(∀ τ' H',N τ' H' → ∃ m',m' < m ∧ W (i + 1) m' τ' H') ∧ ∀ x H3,J.yld i H2 x H3 → g x τ H3 fun τ2 H4=>tc τ2 H4 fun b H5=>
      if b = true then te τ2 H5 fun y H6=>∃ ys,H6 D = some (.lst ys) ∧ ys.length < sizeLine ∧ N τ2 (upd H6 D (.lst (ys ++ [y]))) else N τ2 H5))
    (fin:∀ τ H5 s6,Inv Y [] τ H5 s6 → Q (.ref D) H5 → R (.ok .next) s6) {m0:Nat} {τ0:St} {H0:Hp} {s4:Shared} (I4:Inv Y [] τ0 H0 s4) (st4:tn 0 s4.heap) (fr4:∀ b ∈ fp,H0 b = none) (w0:W 0 m0 τ0 H0) :
    codeAny (model Y.prog Y.w) Y.A (.compLoop (.ListComp elt [⟨tg,iter,ifs,0⟩] scope pos) 0 (.ref it) (.ref D) Y.env) R s4:=by
  refine comp_loop (fun n s'=>∃ i τ H',Inv Y [] τ H' s' ∧ tn i s'.heap ∧ (∀ b ∈ fp,H' b = none) ∧ W i n τ H') ?_ m0 (L2.i_EEEAAA (0) (_) (_) (I4) (st4) (fr4) (w0))
  intro n s5 zpat
  refine L2.o_EEEAAA (zpat) fun i τ H5 I5 st5 fr5 w5=>?_
  rcases turn i n τ H5 w5 with ⟨stop,qn⟩ | ⟨go,NX,hN,step⟩
  · refine thn (T.done Y rfl rfl rfl hc i [] s5 τ H5 _ I5 (fok fr5) st5 stop) fun r s6 zpat=>?_
    refine L2.o_A (zpat) fun hr I6=>?_
    subst hr
    exact fin τ H5 s6 I6 qn
  · refine thn (T.item Y rfl rfl rfl hc i [] s5 τ H5 _ I5 (fok fr5) st5 go) fun r s6 zpat=>?_
    refine L2.o_EA (zpat) fun u hr h6=>?_
    subst hr
    refine thn h6 fun _ s7 zpat=>?_
    refine L2.o_EEAAAA (zpat) fun x H7 I7 r7 y7 st7 fr7=>?_
    have again:∀ {τ9:St} {H9:Hp} {s9:Shared},Inv Y ([] ++ pinsAt fp s7.heap) τ9 H9 s9 → NX τ9 H9 → ∃ m,m < n ∧ ∃ i τ H',Inv Y [] τ H' s9 ∧ tn i s9.heap ∧ (∀ b ∈ fp,H' b = none) ∧ W i m τ H':=fun {τ9 H9 s9} I9 n9=>by
      refine L2.o_EA (hN τ9 H9 n9) fun m' hm w9=>?_
      refine L2.i_EAEEEAAA (m') (hm) (i + 1) (τ9) (H9) (I9.unpinned) (T.keep _ _ _ st7 fun b hb o q=>(I9.pin (b,o) (List.mem_append_right _ (List.mem_append_right _ (mem_pinsAt hb q)))).1) (fun b hb=>?_) (w9)
      refine L2.o_EA (T.obj _ _ st7 b hb) fun o q _=>?_
      exact (I9.pin (b,o) (List.mem_append_right _ (List.mem_append_right _ (mem_pinsAt hb q)))).2.1
    have G:=hg _ s7 τ H7 x u _ (I7.pinned (fok fr7) (T.obj _ _ st7)) r7 (step x H7 y7)
    rw [hx] at G
    refine thn G fun _ s8 zpat=>?_
    refine L2.o_EEA (zpat) fun τ8 H8 I8 q8=>?_
    have Tt:=ht _ s8 τ8 H8 _ I8 q8
    rw [hx] at Tt
    refine thn Tt fun b s9 zpat=>?_
    obtain ⟨H9,I9,q9⟩:=zpat
    cases b with
    | false=>
      rw [if_neg Bool.false_ne_true] at q9 ⊢
      exact again I9 q9
    | true=>
      rw [if_pos rfl] at q9 ⊢
      have Te:=he _ s9 τ8 H9 _ I9 q9
      rw [hx] at Te
      refine thn Te fun xv s10 zpat=>?_
      obtain ⟨y,H10,I10,r10,ys,hy,hz,n10⟩:=zpat
      have Ap:=mt_append (X:=Y) _ s10 τ8 H10 (.ref D) [y] (.ref D) [xv] (fun _ H'=>NX τ8 H') I10 rfl (.cons r10 .nil) ⟨D,ys,y,rfl,rfl,hy,hz,n10⟩
      rw [hx] at Ap
      refine thn Ap fun _ s11 zpat=>?_
      obtain ⟨_,H11,I11,_,n11⟩:=zpat
      exact again I11 n11
theorem comp_gen {X:Cx} {elt tg iter:Expr} {ifs:List Expr} {scope:Scope} {pos cpos:Pos} {wi:TI} {g:TG} {tc:TT} {te:TE} {k:Nat} {N:List Str} {ix:List Nat} (sc:Scope) (hsc:X.env.scope = sc) (S:CompSc sc X.N scope k N ix)
    (hx:X.xe = fun _ _=>False) (hc:X.calm = true) (hi:PI X tg iter wi)
    (hg:∀ cl C s3 H3 fp pins,PG (cxComp X N scope cl C s3 H3 fp pins) tg g) (ht:∀ cl C s3 H3 fp pins,PIf (cxComp X N scope cl C s3 H3 fp pins) ifs tc) (he:∀ cl C s3 H3 fp pins,PE (cxComp X N scope cl C s3 H3 fp pins) elt te)
    {use:Option (Value → Sem Unit)} {QQ:Value → Shared → Prop} (pins:List (Addr × Obj)) (s:Shared) (σ:St) (H:Hp) (Q:VK) (I:Inv X pins σ H s) (h:tComp wi g tc te (stComp k ix) σ H Q)
    (hend:∀ (D C:Addr) (H5:Hp) (s6:Shared),(∀ h',Heap.SameBut C s6.heap h' → Inv X pins σ H5 { s6 with heap:=h' }) → (∃ m6,s6.heap.Ns C m6) → FpOk X pins H5 C → Q (.ref D) H5 → compPost (model X.prog X.w) X.A X.xe use QQ (.ref D) C (.ok .next) s6)
    (hs:∀ x,foldedSetIterable iter X.env x = pure x:=by intro _; rfl):wpAny (model X.prog X.w) X.A (comprehension (.ListComp elt [⟨tg,iter,ifs,0⟩] scope pos) scope X.env cpos (newList []) false (eval iter X.env) use) QQ X.xe s:=by
  refine wpAny_comprehension_free (use:=use) rfl hs (closure_is (comp_cells I hsc S)) S.kind S.loc (thn (hi pins s σ H _ I h) fun v s1 h1=>thn h1 fun itv s2 h2=>?_)
  refine L2.o_EEEEEAAAAA (h2) fun it fp tn J H2 e I2 T st2 f2 q2=>?_
  subst e
  refine wpAny_newObj_type ?_ (by show 0 ≤ sizeLine; exact Nat.zero_le _)
  have hDn:H2 s2.heap.objs.size = none:=I2.hok.fresh (Nat.le_refl _)
  obtain ⟨W,⟨m0,w0⟩,turn⟩:=q2 s2.heap.objs.size hDn
  have kp3:∀ b o,s2.heap.get? b = some o → (s2.heap.push { cls:=.type "list",data:=.seq ([]:List Value).toArray }).get? b = some o:=fun b o q=>Heap.get?_push_of_some _ q
  have I3:Inv X pins σ (upd H2 s2.heap.objs.size (.lst [])) { s2 with heap:=s2.heap.push { cls:=.type "list",data:=.seq ([]:List Value).toArray } }:=
    I2.laid (t':=s2.toks) kp3 (Nat.le_refl _) ⟨Nat.zero_le _,[],0,.nil,Heap.get?_push_size _ rfl⟩
  have hlt2:∀ b ∈ fp,b < s2.heap.objs.size:=fun b hb=>by obtain ⟨o,q,_⟩:=T.obj _ _ st2 b hb; exact Heap.lt_size q
  have f3:∀ b ∈ fp,FpOk X pins (upd H2 s2.heap.objs.size (.lst [])) b:=fun b hb=>⟨by rw [upd_ne (Nat.ne_of_lt (hlt2 b hb))]; exact (f2 b hb).1,(f2 b hb).2⟩
  generalize hs3:({ s2 with heap:=s2.heap.push { cls:=.type "list",data:=.seq ([]:List Value).toArray } }:Shared) = s3 at I3
  have st3:tn 0 s3.heap:=by rw [← hs3]; exact T.keep _ _ _ st2 fun b hb o q=>kp3 b o q
  have hlt3:∀ b ∈ fp,b < s3.heap.objs.size:=fun b hb=>by obtain ⟨o,q,_⟩:=T.obj _ _ st3 b hb; exact Heap.lt_size q
  generalize s2.heap.objs.size = D at w0 turn I3 f3 hDn
  generalize upd H2 D (.lst []) = H3 at w0 I3 f3
  refine wpAny_newFunctionEnv S.nocell (by intro y hy; cases hy) (fun h4 hns hsb=>?_) S.kind
  have kp4:∀ b o,s3.heap.get? b = some o → h4.get? b = some o:=fun b o q=>hsb.extBut b o (Nat.ne_of_lt (Heap.lt_size q)) (Heap.get?_push_of_some _ q)
  have I4:=comp_start (t:=s3.toks + ([]:List (Str × Value)).length) I3 hsc S f3 hlt3 hns kp4
  have st4:tn 0 h4:=T.keep _ _ _ st3 fun b hb o q=>kp4 b o q
  have loop:∀ s4:Shared,s4 = { s3 with heap:=h4,toks:=s3.toks + ([]:List (Str × Value)).length } →
      codeAny (model X.prog X.w) X.A (.compLoop (.ListComp elt [⟨tg,iter,ifs,0⟩] scope pos) 0 (.ref it) (.ref D) (compEnvC scope (cloOf scope X.env) s3.heap.objs.size X.env))
        (compPost (model X.prog X.w) X.A X.xe use QQ (.ref D) s3.heap.objs.size) s4:=by
    rintro s4 rfl
    have fok:∀ {H':Hp},(∀ b ∈ fp,H' b = none) → ∀ b ∈ fp,FpOk (cxComp X N scope (cloOf scope X.env) s3.heap.objs.size s3 H3 fp pins) [] H' b:=fun {H'} hn b hb=>
      ⟨hn b hb,Nat.ne_of_lt (hlt3 b hb),fp_stk I3 (f3 b hb).2.1 (f3 b hb).2.2.1,.inl hb,fun x c e=>(f3 b hb).2.2.2.2.1 x c (clo_in (comp_cells I3 hsc S) e),fun p hp=>(f3 b hb).2.2.2.2.2 p (by simpa [cxComp] using hp)⟩
    exact comp_run (Y:=cxComp X N scope (cloOf scope X.env) s3.heap.objs.size s3 H3 fp pins) hx hc (hg _ _ _ _ _ _) (ht _ _ _ _ _ _) (he _ _ _ _ _ _) T fok turn (fun τ H5 s6 I6 qn=>by
      refine L2.o_EA (I6.loc) fun m6 hn6 _=>?_
      exact hend D _ H5 s6 (fun h' hs'=>comp_after I3 f3 I6 hs') ⟨m6,hn6⟩ (I3.fpOk (Nat.le_refl _) I6.free) qn) I4 st4 (fun b hb=>(f3 b hb).1) w0
  subst hs3
  exact codeAny_compStart_list (loop _ rfl) (T.self _ 0 _ _ _ st4 (loop _ rfl))
theorem pe_comp {X:Cx} {elt tg iter:Expr} {ifs:List Expr} {scope:Scope} {pos:Pos} {wi:TI} {g:TG} {tc:TT} {te:TE} {k:Nat} {N:List Str} {ix:List Nat} (sc:Scope) (hsc:X.env.scope = sc) (S:CompSc sc X.N scope k N ix)
    (hx:X.xe = fun _ _=>False) (hc:X.calm = true) (hi:PI X tg iter wi)
    (hg:∀ cl C s3 H3 fp pins,PG (cxComp X N scope cl C s3 H3 fp pins) tg g) (ht:∀ cl C s3 H3 fp pins,PIf (cxComp X N scope cl C s3 H3 fp pins) ifs tc) (he:∀ cl C s3 H3 fp pins,PE (cxComp X N scope cl C s3 H3 fp pins) elt te)
    (hs:∀ x,foldedSetIterable iter X.env x = pure x:=by intro _; rfl):PE X (.ListComp elt [⟨tg,iter,ifs,0⟩] scope pos) (tComp wi g tc te (stComp k ix)):=by
  intro pins s σ H Q I h
  rw [eval_ListComp]
  show wpAny _ X.A (comprehension (.ListComp elt [⟨tg,iter,ifs,0⟩] scope pos) scope X.env _ (newList []) false (eval iter X.env) none) _ _ s
  refine comp_gen sc hsc S hx hc hi hg ht he (use:=none) (QQ:=EP X pins σ Q) pins s σ H Q I h (fun D C H5 s6 hI hm hf q=>?_) hs
  refine L2.o_E (hm) fun m6 hn6=>?_
  exact ⟨m6,hn6,fun h' hs'=>⟨.ref D,H5,hI h' hs',rfl,q⟩⟩
theorem ps_setC {X:Cx} {i:Nat} {x:Str} {pos' spos:Pos} {elt tg iter:Expr} {ifs:List Expr} {scope:Scope} {pos:Pos} {wi:TI} {g:TG} {tc:TT} {te:TE} {k:Nat} {N:List Str} {ix:List Nat} (hN:X.N.Nodup) (hi':X.N[i]? = some x) (hx':Loc X.env.scope x) (sc:Scope) (hsc:X.env.scope = sc) (S:CompSc sc X.N scope k N ix)
    (hx:X.xe = fun _ _=>False) (hc:X.calm = true) (hi:PI X tg iter wi)
    (hg:∀ cl C s3 H3 fp pins,PG (cxComp X N scope cl C s3 H3 fp pins) tg g) (ht:∀ cl C s3 H3 fp pins,PIf (cxComp X N scope cl C s3 H3 fp pins) ifs tc) (he:∀ cl C s3 H3 fp pins,PE (cxComp X N scope cl C s3 H3 fp pins) elt te)
    (hsw:autoParam (swapsWith (.ListComp elt [⟨tg,iter,ifs,0⟩] scope pos) (some (.Name x pos')) spos.line X.env = pure true) L2.ar._auto_1) (hf:X.fn x = true ∨ X.env.scope.names.lookup x = some .local:=by first | exact .inl rfl | exact .inr rfl | assumption)
    (hs:∀ x,foldedSetIterable iter X.env x = pure x:=by intro _; rfl):PS X (.Assign [.Name x pos'] (.ListComp elt [⟨tg,iter,ifs,0⟩] scope pos) spos) (tAsg (tComp wi g tc te (stComp k ix)) (gName i)):=by
  intro pins s σ H D I h
  rw [exec_Assign_Name_used _ _ _ _ hsw]
  refine wpAny_bind (wpAny_standAt (wpAny_bind ?_))
  show wpAny _ X.A (do let _ ← comprehension (.ListComp elt [⟨tg,iter,ifs,0⟩] scope pos) scope X.env _ (newList []) false (eval iter X.env) (some (assign (.Name x pos') X.env))) _ _ s
  refine wpAny_bind (wpAny_mono (comp_gen sc hsc S hx hc hi hg ht he (use:=some (assign (.Name x pos') X.env)) (QQ:=fun _ s'=>SP X pins D .next s') pins s σ H _ I h (fun D' C H5 s6 hI hm hfp q=>?_) hs) (fun _ s' hq=>wpAny_pure (wpAny_pure hq)) fun _ _ e=>e)
  refine L2.o_E (hm) fun m6 hn6=>?_
  have I6:Inv X pins σ H5 s6:=hI s6.heap (Heap.SameBut.refl _ _)
  show wpAny _ X.A (assign (.Name x pos') X.env (.ref D')) _ _ s6
  refine wpAny_assign_Name (store_ok2 I6 hN hi' hx' (v:=.ref D') rfl (fun s7 I7 hs7=>?_) hf)
  refine L2.o_EA (hs7) fun a hsb ha=>?_
  have hne:C ≠ a:=by
    rcases ha with rfl | ha
    · exact hfp.2.1
    · exact fun z=>hfp.2.2.2.2.1 x a ha z.symm
  refine ⟨m6,hn6.sameBut hsb hne,fun h' hs'=>⟨_,H5,?_,q⟩⟩
  have:=Inv.turned (t':=s7.toks) (it:=C) (h':=h') I7 (fun b o hb e=>(hs'.2 b hb).trans e) hfp.1 hfp.2.1 hfp.2.2.2.1 hfp.2.2.2.2.1 hfp.2.2.2.2.2
  exact this
end L2
namespace L2
open PySem PySem.Spec PyProof.Rows
theorem Same.tup {K:PySem.W.Frag} {H H':Hp} {a:Addr} {xs:List V} (e:Same H H') (h:SqT K H a xs):SqT K H' a xs:=by
  rcases h with (h | ⟨o,h⟩) | h
  · exact .inl (.inl (e _ _ h))
  · exact .inl (.inr ⟨o,e _ _ h⟩)
  · exact .inr h
noncomputable def big:Nat:=2 ^ 1000
theorem bits_of_big {a:Int} (h:a.natAbs < big):Builtin.Int.intBits a ≤ 2 ^ 20:=by
  unfold Builtin.Int.intBits
  by_cases h0:a = 0
  · subst h0; simp
  · have h1:a.natAbs ≠ 0:=by (clear h; omega)
    have h2:a.natAbs.log2 < 1000:=(Nat.log2_lt h1).mpr h
    have h3:(a == 0) = false:=by simpa using h0
    rw [h3]
    simp only [Bool.false_eq_true,if_false]
    have:(2:Nat) ^ 20 = 1048576:=by decide
    (clear this h1 h0 h; omega)
theorem log_of_big {a:Int} (h:a.natAbs < big):a.natAbs.log2 < 9000:=by
  by_cases h0:a.natAbs = 0
  · rw [h0]; decide +kernel
  · have h2:a.natAbs.log2 < 1000:=(Nat.log2_lt h0).mpr h
    (clear h0 h; omega)
noncomputable def CMulB (i j:Int):Prop:=(i.natAbs < big ∧ j.natAbs < big) ∨ CMul i j
noncomputable def CDivB (_ j:Int):Prop:=j ≠ 0 ∧ j.natAbs < big
theorem op_mulB {X:Cx}:OpR X (binaryOp .Mult) (rI CMulB fun i j=>.int (i * j)):=opI fun _ _ _ _ _ _ _ hc q=>mul_int q (hc.elim (fun z=>.of_bits (bits_of_big z.1) (bits_of_big z.2)) CMul.ok)
theorem op_fdivB {X:Cx}:OpR X (binaryOp .FloorDiv) (rI CDivB fun i j=>.int (i.fdiv j)):=opI fun _ _ _ _ _ _ _ hc q=>floordiv_int hc.1 q (.inl (PyProof.noPylong_of_log2 (log_of_big hc.2)))
structure Lam where
  qual:Str
  params:Arguments
  body:Expr
  scope:Scope
  ps:List Str
  free:List Str
class Reg where
  reg:Str → Option Lam
variable [Reg]
noncomputable def fz (a:Addr) (o:Obj):HO:=.frz o (.ext fun h=>h.get? a = some o)
noncomputable def LamAt (H:Hp) (g:Addr) (L:Lam) (cv:List V):Prop:=
  ∃ (clos:List (Str × Addr)) (pm:Value) (c':Addr) (ctv:Value) (oc:Obj) (vs:Array Value) (q:Str) (t:Tok) (φ:HO),H g = some (fz g (PySem.W.kla_obj "<lambda>" L.qual L.params L.body L.scope clos pm c' ctv)) ∧ H c' = some (.frz oc φ) ∧ oc.data = .fields vs ∧ vs[1]? = some (.str q t) ∧ cv.length = clos.length ∧
    clos.map (fun z=>z.1) = L.free ∧ (clos.map (fun z=>z.2)).Nodup ∧ ∀ (i:Nat) (z:Str × Addr) (v:V),clos[i]? = some z → cv[i]? = some v → ∃ u o,H z.2 = some (fz z.2 o) ∧ o.data = .cell (some u) ∧ RelV v u
noncomputable def FnV (K:PySem.W.Frag) (H:Hp) (g:Addr) (tag:Str) (cv:List V):Prop:=
  (Reg.reg tag = none ∧ cv = [] ∧ PySem.W.nsIn K mainGlobals tag = some (some (.ref g))) ∨ ∃ L,Reg.reg tag = some L ∧ LamAt H g L cv
theorem LamAt.mono {H H':Hp} {g:Addr} {L:Lam} {cv:List V} (e:Same H H') (h:LamAt H g L cv):LamAt H' g L cv:=by
  refine L2.o_EEEEEEEEEAAAAAAA (h) fun clos pm c' ctv oc vs q t φ h1 h2 h3 h4 h5 h6 h7 h8=>?_
  exact L2.i_EEEEEEEEEAAAAAAA (clos) (pm) (c') (ctv) (oc) (vs) (q) (t) (φ) (e _ _ h1) (e _ _ h2) (h3) (h4) (h5) (h6) (h7) (fun i q v a b=>let ⟨u,o,x,y⟩:=h8 i q v a b; ⟨u,o,e _ _ x,y⟩)
theorem FnV.mono {K:PySem.W.Frag} {H H':Hp} {g:Addr} {tag:Str} {cv:List V} (e:Same H H') (h:FnV K H g tag cv):FnV K H' g tag cv:=by
  rcases h with h | ⟨L,h1,h2⟩
  · exact .inl h
  · exact .inr ⟨L,h1,h2.mono e⟩
noncomputable def ExcV (K:PySem.W.Frag) (H:Hp) (e:Addr) (cls:Str) (fv:List (Str × V)):Prop:=
  ∃ (oe:Obj) (C:Addr) (vs:Array Value),H e = some (fz e oe) ∧ oe.cls = .ref C ∧ oe.data = .fields vs ∧ PySem.W.nsIn K mainGlobals cls = some (some (.ref C)) ∧ ((fv = [] ∧ oe.dict = none) ∨ ∃ dx,oe.dict = some dx ∧ H dx = some (.xd fv))
theorem ExcV.mono {K:PySem.W.Frag} {H H':Hp} {e:Addr} {cls:Str} {fv:List (Str × V)} (s:Same H H') (h:ExcV K H e cls fv):ExcV K H' e cls fv:=by
  refine L2.o_EEEAAAA (h) fun oe C vs h1 h2 h3 h4 h5=>?_
  refine L2.i_EEEAAAA (oe) (C) (vs) (s _ _ h1) (h2) (h3) (h4) ?_
  rcases h5 with h5 | ⟨dx,h5,h6⟩
  · exact .inl h5
  · exact .inr ⟨dx,h5,s _ _ h6⟩
noncomputable def excD (cls:Str) (fd:List PyData):PyData:=.dict [(.bool true,.str cls),(.none,.tuple fd)]
noncomputable def nmD (fv:List (Str × V)):List PyData:=fv.map fun p=>.str p.1
noncomputable def InsV (K:PySem.W.Frag) (H:Hp) (a:Addr) (cls:Str) (fs:List (Str × V)):Prop:=∃ C dx,H a = some (.ins C dx fs) ∧ PySem.W.nsIn K mainGlobals cls = some (some (.ref C))
theorem InsV.mono {K:PySem.W.Frag} {H H':Hp} {a:Addr} {cls:Str} {fs:List (Str × V)} (s:Same H H') (h:InsV K H a cls fs):InsV K H' a cls fs:=by
  refine L2.o_EEA (h) fun C dx h1 h2=>?_
  exact L2.i_EEA (C) (dx) (s _ _ h1) (h2)
noncomputable def objD (cls:Str) (ns:List Str) (fd:List PyData):PyData:=.dict [(.bool false,.str cls),(.none,.tuple (ns.map .str)),(.none,.tuple fd)]
mutual
inductive Den (K:PySem.W.Frag) (H:Hp):V → PyData → Prop
  | non:Den K H .non .none
  | bl (b:Bool):Den K H (.bl b) (.bool b)
  | int (i:Int):Den K H (.int i) (.int i)
  | str (x:Str):Den K H (.str x) (.str x)
  | tup {a:Addr} {vs:List V} {ds:List PyData}:SqT K H a vs → DenL K H vs ds → Den K H (.ref a) (.tuple ds)
  | lst {a:Addr} {vs:List V} {ds:List PyData}:SqL K H a vs → DenL K H vs ds → Den K H (.ref a) (.list ds)
  | fn {g:Addr} {tag:Str} {cv:List V} {caps:List PyData}:FnV K H g tag cv → DenL K H cv caps → Den K H (.ref g) (.dict [(.none,.str tag),(.none,.tuple caps)])
  | exc {e:Addr} {cls:Str} {fv:List (Str × V)} {fd:List PyData}:ExcV K H e cls fv → DenL K H (fv.map (·.2)) fd → Den K H (.ref e) (.dict [(.bool true,.str cls),(.none,.tuple (nmD fv ++ fd))])
  | obj {a:Addr} {cls:Str} {fs:List (Str × V)} {fd:List PyData}:InsV K H a cls fs → DenL K H (fs.map (·.2)) fd → Den K H (.ref a) (.dict [(.bool false,.str cls),(.none,.tuple ((fs.map (·.1)).map .str)),(.none,.tuple fd)])
inductive DenL (K:PySem.W.Frag) (H:Hp):List V → List PyData → Prop
  | nil:DenL K H [] []
  | cons {v:V} {d:PyData} {vs:List V} {ds:List PyData}:Den K H v d → DenL K H vs ds → DenL K H (v :: vs) (d :: ds)
end
section
variable {K:PySem.W.Frag} {H H':Hp}
theorem Den.mono (e:Same H H') {v:V} {d:PyData} (h:Den K H v d):Den K H' v d:=
  Den.rec (motive_1:=fun v d _=>Den K H' v d) (motive_2:=fun vs ds _=>DenL K H' vs ds) .non .bl .int .str (fun h _ r=>.tup (e.tup h) r) (fun h _ r=>.lst (e.seq h) r) (fun h _ r=>.fn (h.mono e) r) (fun h _ r=>.exc (h.mono e) r) (fun h _ r=>.obj (h.mono e) r) .nil (fun _ _ a b=>.cons a b) h
theorem DenL.mono (e:Same H H') {vs:List V} {ds:List PyData} (h:DenL K H vs ds):DenL K H' vs ds:=
  DenL.rec (motive_1:=fun v d _=>Den K H' v d) (motive_2:=fun vs ds _=>DenL K H' vs ds) .non .bl .int .str (fun h _ r=>.tup (e.tup h) r) (fun h _ r=>.lst (e.seq h) r) (fun h _ r=>.fn (h.mono e) r) (fun h _ r=>.exc (h.mono e) r) (fun h _ r=>.obj (h.mono e) r) .nil (fun _ _ a b=>.cons a b) h
theorem DenL.ind {M:List V → List PyData → Prop} (n:M [] []) (c:∀ {v d vs ds},Den K H v d → DenL K H vs ds → M vs ds → M (v :: vs) (d :: ds)) {vs:List V} {ds:List PyData} (h:DenL K H vs ds):M vs ds:=
  DenL.rec (motive_1:=fun _ _ _=>True) (motive_2:=fun vs ds _=>M vs ds) trivial (fun _=>trivial) (fun _=>trivial) (fun _=>trivial) (fun _ _ _=>trivial) (fun _ _ _=>trivial) (fun _ _ _=>trivial) (fun _ _ _=>trivial) (fun _ _ _=>trivial) n (fun h r _ ih=>c h r ih) h
theorem DenL.length {vs:List V} {ds:List PyData} (h:DenL K H vs ds):vs.length = ds.length:=h.ind (M:=fun vs ds=>vs.length = ds.length) rfl fun _ _ ih=>congrArg (· + 1) ih
theorem DenL.get {vs:List V} {ds:List PyData} {i:Nat} {d:PyData} (h:DenL K H vs ds):ds[i]? = some d → ∃ v,vs[i]? = some v ∧ Den K H v d:=
  h.ind (M:=fun vs ds=>∀ i,ds[i]? = some d → ∃ v,vs[i]? = some v ∧ Den K H v d) (fun _ e=>by rw [List.getElem?_nil] at e; cases e) (fun h _ ih i=>by
    cases i with
    | zero=>intro e; cases e; exact ⟨_,rfl,h⟩
    | succ i=>exact ih i) i
theorem DenL.append {vs ws:List V} {ds es:List PyData} (h:DenL K H vs ds) (s:DenL K H ws es):DenL K H (vs ++ ws) (ds ++ es):=h.ind (M:=fun vs ds=>DenL K H (vs ++ ws) (ds ++ es)) s fun h _ ih=>.cons h ih
theorem DenL.set {v:V} {d:PyData} (h:Den K H v d):∀ {vs:List V} {ds:List PyData} (i:Nat),DenL K H vs ds → DenL K H (vs.set i v) (ds.set i d)
  | _,_,_,.nil=>.nil
  | _,_,0,.cons _ r=>.cons h r
  | _,_,i + 1,.cons q r=>.cons q (DenL.set h i r)
theorem DenL.take:∀ {vs:List V} {ds:List PyData} (n:Nat),DenL K H vs ds → DenL K H (vs.take n) (ds.take n)
  | _,_,0,_=>.nil
  | _,_,_ + 1,.nil=>.nil
  | _,_,n + 1,.cons h r=>.cons h (DenL.take n r)
theorem DenL.drop:∀ {vs:List V} {ds:List PyData} (n:Nat),DenL K H vs ds → DenL K H (vs.drop n) (ds.drop n)
  | _,_,0,r=>r
  | _,_,_ + 1,.nil=>.nil
  | _,_,n + 1,.cons _ r=>DenL.drop n r
theorem DenL.ints:∀ ns:List Int,DenL K H (ns.map V.int) (ns.map PyData.int)
  | []=>.nil
  | n :: r=>.cons (.int n) (DenL.ints r)
theorem DenL.atI {vs:List V} {ds:List PyData} {i:Int} {d:PyData} (r:DenL K H vs ds) (h:atI ds i = some d):∃ v,L2.atI vs i = some v ∧ Den K H v d:=by
  unfold L2.atI at h ⊢
  rw [← r.length] at h
  cases e:ixN vs.length i with
  | none=>rw [e] at h; cases h
  | some j=>
    rw [e] at h
    refine L2.o_EA (r.get h) fun v h1 h2=>?_
    exact ⟨v,h1,h2⟩
inductive Sc:V → PyData → Prop
  | non:Sc .non .none
  | bl (b:Bool):Sc (.bl b) (.bool b)
  | int (i:Int):Sc (.int i) (.int i)
  | str (x:Str):Sc (.str x) (.str x)
theorem Sc.den {v:V} {d:PyData} (h:Sc v d):Den K H v d:=by
  cases h with
  | non=>exact .non
  | bl b=>exact .bl b
  | int i=>exact .int i
  | str x=>exact .str x
theorem den_int {v:V} {i:Int} (h:Den K H v (.int i)):v = .int i:=by cases h; rfl
theorem den_bl {v:V} {b:Bool} (h:Den K H v (.bool b)):v = .bl b:=by cases h; rfl
inductive DLst (K:PySem.W.Frag) (H:Hp) (v:V) (ds:List PyData):Prop
  | mk (a:Addr) (vs:List V) (e:v = .ref a) (q:SqL K H a vs) (r:DenL K H vs ds):DLst K H v ds
inductive DTup (K:PySem.W.Frag) (H:Hp) (v:V) (ds:List PyData):Prop
  | mk (a:Addr) (vs:List V) (e:v = .ref a) (q:SqT K H a vs) (r:DenL K H vs ds):DTup K H v ds
theorem den_lst {v:V} {ds:List PyData} (h:Den K H v (.list ds)):DLst K H v ds:=by cases h with | lst q r=>exact ⟨_,_,rfl,q,r⟩
theorem den_tup {v:V} {ds:List PyData} (h:Den K H v (.tuple ds)):DTup K H v ds:=by cases h with | tup q r=>exact ⟨_,_,rfl,q,r⟩
theorem denl_cons {vs:List V} {d:PyData} {ds:List PyData} (h:DenL K H vs (d :: ds)):∃ v ws,vs = v :: ws ∧ Den K H v d ∧ DenL K H ws ds:=by cases h with | cons q r=>exact ⟨_,_,rfl,q,r⟩
theorem denl_nil {vs:List V} (h:DenL K H vs []):vs = []:=by cases h; rfl
noncomputable def lf:PyData → Bool
  | .list _=>false
  | .dict _=>false
  | .tuple ds=>go ds
  | _=>true
where go:List PyData → Bool
  | []=>true
  | d :: r=>lf d && go r
end
section
variable {X:Cx} {pins:List (Addr × Obj)} {σ:St} {H:Hp} {s:Shared}
theorem Den.reads (I:Inv X pins σ H s) {v:V} {d:PyData} {u:Value} (h:Den X.K H v d) (z:d.canLay0 = true) (r:RelV v u):∃ as,Reads s.heap u d as:=by
  refine Den.rec (motive_1:=fun v d _=>d.canLay0 = true → ∀ u,RelV v u → ∃ as,Reads s.heap u d as) (motive_2:=fun vs ds _=>PyData.canLayAll0 ds = true → ∀ us,Vals vs us → ∃ as,ReadsAll s.heap us ds as) ?_ ?_ ?_ ?_ ?_ ?_ (fun _ _ _ z=>by simp [PyData.canLay0] at z) (fun _ _ _ z=>by simp [PyData.canLay0] at z) (fun _ _ _ z=>by simp [PyData.canLay0] at z) ?_ ?_ h z u r
  · intro _ u r; cases r; exact ⟨_,Reads.none⟩
  · intro b _ u r; cases r; exact ⟨_,Reads.bool b⟩
  · intro i _ u r; obtain ⟨t,rfl⟩:=r; exact ⟨_,Reads.int i t⟩
  · intro x _ u r; obtain ⟨t,rfl⟩:=r; exact ⟨_,Reads.str x t⟩
  · intro _ _ _ h _ ih z u r
    cases r
    obtain ⟨its,rv,⟨o,e,c,n,d⟩,_⟩:=I.tuple h
    refine L2.o_E (ih (by simpa [PyData.canLay0] using z) its rv) fun as z=>?_
    exact ⟨as,reads_tuple_at e c d (by simpa using z)⟩
  · intro _ _ _ h _ ih z u r
    cases r
    obtain ⟨its,rv,⟨o,n,e,c,_,d⟩,_⟩:=I.list h
    refine L2.o_E (ih (by simpa [PyData.canLay0] using z) its rv) fun as z=>?_
    exact ⟨_,reads_list_at e c d (by simpa using z)⟩
  · intro _ us r; cases r; exact ⟨_,ReadsAll.nil⟩
  · intro _ _ _ _ _ _ ih1 ih2 z us r
    rw [PyData.canLayAll0,Bool.and_eq_true] at z
    cases r with
    | cons r1 r2=>
      refine L2.o_E (ih1 z.1 _ r1) fun as z1=>?_
      refine L2.o_E (ih2 z.2 _ r2) fun bs y=>?_
      exact ⟨_,ReadsAll.cons z1 y⟩
noncomputable def rEqD (K:PySem.W.Frag):R2:=fun x y H Q=>∃ da db,Den K H x da ∧ Den K H y db ∧ SeqAt.shaped da = true ∧ SeqAt.shaped db = true ∧ Q (.bl (PyData.eqv da db)) H
noncomputable def rNeD (K:PySem.W.Frag):R2:=fun x y H Q=>∃ da db,Den K H x da ∧ Den K H y db ∧ SeqAt.shaped da = true ∧ SeqAt.shaped db = true ∧ Q (.bl (!PyData.eqv da db)) H
theorem op_eqD (hu:X.A.units + 64 < cLine):OpR X (compareOp .Eq) (rEqD X.K):=by
  intro pins s σ H x y v u Q I rx ry h
  refine L2.o_EEAAAA (h) fun da db ha hb sa sb q=>?_
  refine L2.o_E (ha.reads I (SeqAt.canLay_of_shaped sa) rx) fun as ra=>?_
  refine L2.o_E (hb.reads I (SeqAt.canLay_of_shaped sb) ry) fun bs rb=>?_
  exact eq_dataH ra rb sa sb hu (fin_bl I q rfl)
theorem op_neD (hu:X.A.units + 64 < cLine):OpR X (compareOp .NotEq) (rNeD X.K):=by
  intro pins s σ H x y v u Q I rx ry h
  refine L2.o_EEAAAA (h) fun da db ha hb sa sb q=>?_
  refine L2.o_E (ha.reads I (SeqAt.canLay_of_shaped sa) rx) fun as ra=>?_
  refine L2.o_E (hb.reads I (SeqAt.canLay_of_shaped sb) ry) fun bs rb=>?_
  exact ne_dataH ra rb sa sb hu (fin_bl I q rfl)
end
inductive OwO where
  | l (vs:List V) | i (C dx:Addr) (fs:List (Str × V))
noncomputable def OwO.ho:OwO → HO
  | .l vs=>.lst vs
  | .i C dx fs=>.ins C dx fs
open Classical in
noncomputable def del (H:Hp) (P:Addr → Prop):Hp:=fun b=>if P b then none else H b
noncomputable def uni (hid:Addr → Prop) (ow:List Addr):Addr → Prop:=fun b=>hid b ∨ b ∈ ow
theorem del_in {H:Hp} {P:Addr → Prop} {b:Addr} (h:P b):del H P b = none:=by unfold del; rw [if_pos h]
theorem del_out {H:Hp} {P:Addr → Prop} {b:Addr} (h:¬ P b):del H P b = H b:=by unfold del; rw [if_neg h]
theorem del_same (H:Hp) (P:Addr → Prop):Same (del H P) H:=fun b o e=>by
  by_cases h:P b
  · rw [del_in h] at e; cases e
  · rw [del_out h] at e; exact e
theorem del_mono {H H':Hp} (e:Same H H') (P:Addr → Prop):Same (del H P) (del H' P):=fun b o q=>by
  by_cases h:P b
  · rw [del_in h] at q; cases q
  · rw [del_out h] at q ⊢; exact e b o q
theorem del_sub {H:Hp} {P Q:Addr → Prop} (h:∀ b,P b → Q b):Same (del H Q) (del H P):=fun b o q=>by
  by_cases hq:Q b
  · rw [del_in hq] at q; cases q
  · rw [del_out hq] at q
    rw [del_out fun z=>hq (h b z)]
    exact q
theorem del_false (H:Hp):del H (fun _=>False) = H:=by funext b; exact del_out (fun z=>z)
theorem uni_nil (hid:Addr → Prop):uni hid [] = hid:=by
  funext b
  unfold uni
  simp
theorem uni_in {hid:Addr → Prop} {ow:List Addr} {b:Addr} (h:b ∈ ow):uni hid ow b:=.inr h
theorem del_uni (H:Hp) (hid:Addr → Prop) (ow:List Addr):Same (del H (uni hid ow)) (del H hid):=del_sub fun _ z=>.inl z
theorem del_upd {H:Hp} {l:Addr} {P:Addr → Prop} {o:HO} (h:P l):del (upd H l o) P = del H P:=by
  funext b
  by_cases hb:P b
  · rw [del_in hb,del_in hb]
  · rw [del_out hb,del_out hb,upd_ne]
    rintro rfl
    exact hb h
theorem same_new {H:Hp} {p:Addr} {o:HO} (h:H p = none):Same H (upd H p o):=fun b u e=>by rw [upd_ne (ne_of_none e h)]; exact e
theorem del_new {H H':Hp} {p:Addr} {P Q:Addr → Prop} (s:Same H H') (h:H p = none) (hq:∀ b,Q b → P b ∨ b = p):Same (del H P) (del H' Q):=fun b u e=>by
  by_cases hb:P b
  · rw [del_in hb] at e; cases e
  · rw [del_out hb] at e
    have hne:b ≠ p:=ne_of_none e h
    rw [del_out fun z=>(hq b z).elim hb hne]
    exact s b u e
section
variable {K:PySem.W.Frag} {H:Hp} {hid:Addr → Prop} {ow:List Addr}
theorem del_lst (hi:∀ l ∈ ow,∃ vs:OwO,H l = some vs.ho) {a:Addr} {o:HO} (e:del H hid a = some o) (n:∀ vs:OwO,o ≠ vs.ho):del H (uni hid ow) a = some o:=by
  have e':=del_same _ _ a o e
  have nh:¬ hid a:=fun z=>by rw [del_in z] at e; cases e
  rw [del_out]
  · exact e'
  · rintro (z | z)
    · exact nh z
    · refine L2.o_E (hi a z) fun vs e2=>?_
      rw [e'] at e2
      exact n vs (Option.some.inj e2)
theorem SqT.clean (hi:∀ l ∈ ow,∃ vs:OwO,H l = some vs.ho) {a:Addr} {vs:List V} (q:SqT K (del H hid) a vs):SqT K (del H (uni hid ow)) a vs:=by
  rcases q with (q | ⟨o,q⟩) | q
  · exact .inl (.inl (del_lst hi q fun w z=>by cases w <;> cases z))
  · exact .inl (.inr ⟨o,del_lst hi q fun w z=>by cases w <;> cases z⟩)
  · exact .inr q
theorem Den.clean (hi:∀ l ∈ ow,∃ vs:OwO,H l = some vs.ho) {v:V} {d:PyData} (z:Den K (del H hid) v d):lf d = true → Den K (del H (uni hid ow)) v d:=
  Den.rec (motive_1:=fun v d _=>lf d = true → Den K (del H (uni hid ow)) v d) (motive_2:=fun vs ds _=>lf.go ds = true → DenL K (del H (uni hid ow)) vs ds) (fun _=>.non) (fun b _=>.bl b) (fun i _=>.int i) (fun x _=>.str x) (fun q _ r h=>.tup (q.clean hi) (r h)) (fun _ _ _ h=>by cases h) (fun _ _ _ h=>by cases h) (fun _ _ _ h=>by cases h) (fun _ _ _ h=>by cases h) (fun _=>.nil) (fun _ _ a b h=>by rw [lf.go,Bool.and_eq_true] at h; exact .cons (a h.1) (b h.2)) z
theorem DenL.clean (hi:∀ l ∈ ow,∃ vs:OwO,H l = some vs.ho) {vs:List V} {ds:List PyData} (z:DenL K (del H hid) vs ds):lf.go ds = true → DenL K (del H (uni hid ow)) vs ds:=
  DenL.rec (motive_1:=fun v d _=>lf d = true → Den K (del H (uni hid ow)) v d) (motive_2:=fun vs ds _=>lf.go ds = true → DenL K (del H (uni hid ow)) vs ds) (fun _=>.non) (fun b _=>.bl b) (fun i _=>.int i) (fun x _=>.str x) (fun q _ r h=>.tup (q.clean hi) (r h)) (fun _ _ _ h=>by cases h) (fun _ _ _ h=>by cases h) (fun _ _ _ h=>by cases h) (fun _ _ _ h=>by cases h) (fun _=>.nil) (fun _ _ a b h=>by rw [lf.go,Bool.and_eq_true] at h; exact .cons (a h.1) (b h.2)) z
end
noncomputable abbrev Rho:=List (Option PyData)
inductive Ty where
  | cl:Ty
  | lst:Ty → Ty
  | tup:List Ty → Ty
  | io:Addr → Ty
  | rc:Option Addr → Str → List Str → List Ty → Ty
  | nw:Ty
mutual
inductive DenO (K:PySem.W.Frag) (H C:Hp):Ty → V → PyData → List Addr → Prop
  | cl {v:V} {d:PyData}:Den K C v d → DenO K H C .cl v d []
  | non {t:Ty}:DenO K H C t .non .none []
  | lst {t:Ty} {a:Addr} {vs:List V} {ds:List PyData} {as:List Addr}:H a = some (.lst vs) → DenOs K H C t vs ds as → a ∉ as → DenO K H C (.lst t) (.ref a) (.list ds) (a :: as)
  | tup {ts:List Ty} {a:Addr} {vs:List V} {ds:List PyData} {as:List Addr}:SqT K C a vs → DenOp K H C ts vs ds as → DenO K H C (.tup ts) (.ref a) (.tuple ds) as
  | io {l:Addr} {vs:List V} {ds:List PyData}:H l = some (.lst vs) → DenL K C vs ds → DenO K H C (.io l) (.ref l) (.list ds) [l]
  | rc {oa:Option Addr} {cls:Str} {ns:List Str} {ts:List Ty} {a D dx:Addr} {fs:List (Str × V)} {ds:List PyData} {as:List Addr}:(∀ b,oa = some b → b = a) → H a = some (.ins D dx fs) → PySem.W.nsIn K mainGlobals cls = some (some (.ref D)) → fs.map (·.1) = ns → DenOp K H C ts (fs.map (·.2)) ds as → a ∉ as → DenO K H C (.rc oa cls ns ts) (.ref a) (objD cls ns ds) (a :: as)
  | nw {v:V} {d:PyData} {as:List Addr}:(∀ p ∈ as,∃ vs:OwO,H p = some vs.ho) → Den K (del H fun b=>b ∉ as) v d → DenO K H C .nw v d as
inductive DenOs (K:PySem.W.Frag) (H C:Hp):Ty → List V → List PyData → List Addr → Prop
  | nil {t:Ty}:DenOs K H C t [] [] []
  | cons {t:Ty} {v:V} {d:PyData} {vs:List V} {ds:List PyData} {as bs:List Addr}:DenO K H C t v d as → DenOs K H C t vs ds bs → (∀ p ∈ as,p ∉ bs) → DenOs K H C t (v :: vs) (d :: ds) (as ++ bs)
inductive DenOp (K:PySem.W.Frag) (H C:Hp):List Ty → List V → List PyData → List Addr → Prop
  | nil:DenOp K H C [] [] [] []
  | cons {t:Ty} {ts:List Ty} {v:V} {d:PyData} {vs:List V} {ds:List PyData} {as bs:List Addr}:DenO K H C t v d as → DenOp K H C ts vs ds bs → (∀ p ∈ as,p ∉ bs) → DenOp K H C (t :: ts) (v :: vs) (d :: ds) (as ++ bs)
end
section
variable {K:PySem.W.Frag} {H H' C C' G:Hp}
theorem same_on {G:Hp} {as:List Addr} (k:∀ p ∈ as,∀ o,H p = some o → G p = some o):Same (del H fun b=>b ∉ as) G:=fun b o e=>by
  by_cases h:b ∈ as
  · rw [del_out (fun z=>z h)] at e
    exact k b h o e
  · rw [del_in h] at e
    cases e
theorem same_on2 {G:Hp} {as:List Addr} (k:∀ p ∈ as,∀ o,H p = some o → G p = some o):Same (del H fun b=>b ∉ as) (del G fun b=>b ∉ as):=fun b o e=>by
  by_cases h:b ∈ as
  · rw [del_out (fun z=>z h)] at e ⊢
    exact k b h o e
  · rw [del_in h] at e
    cases e
theorem DenO.mono (c:Same C C') {t:Ty} {v:V} {d:PyData} {as:List Addr} (h:DenO K H C t v d as):(∀ p ∈ as,∀ o,H p = some o → H' p = some o) → DenO K H' C' t v d as:=
  DenO.rec (motive_1:=fun t v d as _=>(∀ p ∈ as,∀ o,H p = some o → H' p = some o) → DenO K H' C' t v d as) (motive_2:=fun t v d as _=>(∀ p ∈ as,∀ o,H p = some o → H' p = some o) → DenOs K H' C' t v d as) (motive_3:=fun t v d as _=>(∀ p ∈ as,∀ o,H p = some o → H' p = some o) → DenOp K H' C' t v d as) (fun h _=>.cl (h.mono c)) (fun _=>.non) (fun h _ n r k=>.lst (k _ List.mem_cons_self _ h) (r fun p hp=>k p (List.mem_cons_of_mem _ hp)) n) (fun h _ r k=>.tup (c.tup h) (r k)) (fun h q k=>.io (k _ (List.mem_singleton.mpr rfl) _ h) (q.mono c)) (fun ho h hn e _ n r k=>.rc ho (k _ List.mem_cons_self _ h) hn e (r fun p hp=>k p (List.mem_cons_of_mem _ hp)) n) (fun l q k=>.nw (fun p hp=>(l p hp).imp fun o e=>k p hp _ e) (q.mono (same_on2 k))) (fun _=>.nil) (fun _ _ n h r k=>.cons (h fun p hp=>k p (List.mem_append_left _ hp)) (r fun p hp=>k p (List.mem_append_right _ hp)) n) (fun _=>.nil) (fun _ _ n h r k=>.cons (h fun p hp=>k p (List.mem_append_left _ hp)) (r fun p hp=>k p (List.mem_append_right _ hp)) n) h
theorem DenOs.mono (c:Same C C') {t:Ty} {v:List V} {d:List PyData} {as:List Addr} (h:DenOs K H C t v d as):(∀ p ∈ as,∀ o,H p = some o → H' p = some o) → DenOs K H' C' t v d as:=
  DenOs.rec (motive_1:=fun t v d as _=>(∀ p ∈ as,∀ o,H p = some o → H' p = some o) → DenO K H' C' t v d as) (motive_2:=fun t v d as _=>(∀ p ∈ as,∀ o,H p = some o → H' p = some o) → DenOs K H' C' t v d as) (motive_3:=fun t v d as _=>(∀ p ∈ as,∀ o,H p = some o → H' p = some o) → DenOp K H' C' t v d as) (fun h _=>.cl (h.mono c)) (fun _=>.non) (fun h _ n r k=>.lst (k _ List.mem_cons_self _ h) (r fun p hp=>k p (List.mem_cons_of_mem _ hp)) n) (fun h _ r k=>.tup (c.tup h) (r k)) (fun h q k=>.io (k _ (List.mem_singleton.mpr rfl) _ h) (q.mono c)) (fun ho h hn e _ n r k=>.rc ho (k _ List.mem_cons_self _ h) hn e (r fun p hp=>k p (List.mem_cons_of_mem _ hp)) n) (fun l q k=>.nw (fun p hp=>(l p hp).imp fun o e=>k p hp _ e) (q.mono (same_on2 k))) (fun _=>.nil) (fun _ _ n h r k=>.cons (h fun p hp=>k p (List.mem_append_left _ hp)) (r fun p hp=>k p (List.mem_append_right _ hp)) n) (fun _=>.nil) (fun _ _ n h r k=>.cons (h fun p hp=>k p (List.mem_append_left _ hp)) (r fun p hp=>k p (List.mem_append_right _ hp)) n) h
theorem DenOp.mono (c:Same C C') {t:List Ty} {v:List V} {d:List PyData} {as:List Addr} (h:DenOp K H C t v d as):(∀ p ∈ as,∀ o,H p = some o → H' p = some o) → DenOp K H' C' t v d as:=
  DenOp.rec (motive_1:=fun t v d as _=>(∀ p ∈ as,∀ o,H p = some o → H' p = some o) → DenO K H' C' t v d as) (motive_2:=fun t v d as _=>(∀ p ∈ as,∀ o,H p = some o → H' p = some o) → DenOs K H' C' t v d as) (motive_3:=fun t v d as _=>(∀ p ∈ as,∀ o,H p = some o → H' p = some o) → DenOp K H' C' t v d as) (fun h _=>.cl (h.mono c)) (fun _=>.non) (fun h _ n r k=>.lst (k _ List.mem_cons_self _ h) (r fun p hp=>k p (List.mem_cons_of_mem _ hp)) n) (fun h _ r k=>.tup (c.tup h) (r k)) (fun h q k=>.io (k _ (List.mem_singleton.mpr rfl) _ h) (q.mono c)) (fun ho h hn e _ n r k=>.rc ho (k _ List.mem_cons_self _ h) hn e (r fun p hp=>k p (List.mem_cons_of_mem _ hp)) n) (fun l q k=>.nw (fun p hp=>(l p hp).imp fun o e=>k p hp _ e) (q.mono (same_on2 k))) (fun _=>.nil) (fun _ _ n h r k=>.cons (h fun p hp=>k p (List.mem_append_left _ hp)) (r fun p hp=>k p (List.mem_append_right _ hp)) n) (fun _=>.nil) (fun _ _ n h r k=>.cons (h fun p hp=>k p (List.mem_append_left _ hp)) (r fun p hp=>k p (List.mem_append_right _ hp)) n) h
theorem DenO.raw (c:Same C G) {t:Ty} {v:V} {d:PyData} {as:List Addr} (h:DenO K H C t v d as):(∀ p ∈ as,∀ o,H p = some o → G p = some o) → Den K G v d:=
  DenO.rec (motive_1:=fun t v d as _=>(∀ p ∈ as,∀ o,H p = some o → G p = some o) → Den K G v d) (motive_2:=fun t v d as _=>(∀ p ∈ as,∀ o,H p = some o → G p = some o) → DenL K G v d) (motive_3:=fun t v d as _=>(∀ p ∈ as,∀ o,H p = some o → G p = some o) → DenL K G v d) (fun h _=>h.mono c) (fun _=>.non) (fun h _ n r k=>.lst (SqL.of (k _ List.mem_cons_self _ h)) (r fun p hp=>k p (List.mem_cons_of_mem _ hp))) (fun h _ r k=>.tup (c.tup h) (r k)) (fun h q k=>.lst (SqL.of (k _ (List.mem_singleton.mpr rfl) _ h)) (q.mono c)) (fun ho h hn e _ n r k=>e ▸ Den.obj ⟨_,_,k _ List.mem_cons_self _ h,hn⟩ (r fun p hp=>k p (List.mem_cons_of_mem _ hp))) (fun _ q k=>q.mono (same_on k)) (fun _=>.nil) (fun _ _ n h r k=>.cons (h fun p hp=>k p (List.mem_append_left _ hp)) (r fun p hp=>k p (List.mem_append_right _ hp))) (fun _=>.nil) (fun _ _ n h r k=>.cons (h fun p hp=>k p (List.mem_append_left _ hp)) (r fun p hp=>k p (List.mem_append_right _ hp))) h
theorem DenOs.raw (c:Same C G) {t:Ty} {v:List V} {d:List PyData} {as:List Addr} (h:DenOs K H C t v d as):(∀ p ∈ as,∀ o,H p = some o → G p = some o) → DenL K G v d:=
  DenOs.rec (motive_1:=fun t v d as _=>(∀ p ∈ as,∀ o,H p = some o → G p = some o) → Den K G v d) (motive_2:=fun t v d as _=>(∀ p ∈ as,∀ o,H p = some o → G p = some o) → DenL K G v d) (motive_3:=fun t v d as _=>(∀ p ∈ as,∀ o,H p = some o → G p = some o) → DenL K G v d) (fun h _=>h.mono c) (fun _=>.non) (fun h _ n r k=>.lst (SqL.of (k _ List.mem_cons_self _ h)) (r fun p hp=>k p (List.mem_cons_of_mem _ hp))) (fun h _ r k=>.tup (c.tup h) (r k)) (fun h q k=>.lst (SqL.of (k _ (List.mem_singleton.mpr rfl) _ h)) (q.mono c)) (fun ho h hn e _ n r k=>e ▸ Den.obj ⟨_,_,k _ List.mem_cons_self _ h,hn⟩ (r fun p hp=>k p (List.mem_cons_of_mem _ hp))) (fun _ q k=>q.mono (same_on k)) (fun _=>.nil) (fun _ _ n h r k=>.cons (h fun p hp=>k p (List.mem_append_left _ hp)) (r fun p hp=>k p (List.mem_append_right _ hp))) (fun _=>.nil) (fun _ _ n h r k=>.cons (h fun p hp=>k p (List.mem_append_left _ hp)) (r fun p hp=>k p (List.mem_append_right _ hp))) h
theorem DenOp.raw (c:Same C G) {t:List Ty} {v:List V} {d:List PyData} {as:List Addr} (h:DenOp K H C t v d as):(∀ p ∈ as,∀ o,H p = some o → G p = some o) → DenL K G v d:=
  DenOp.rec (motive_1:=fun t v d as _=>(∀ p ∈ as,∀ o,H p = some o → G p = some o) → Den K G v d) (motive_2:=fun t v d as _=>(∀ p ∈ as,∀ o,H p = some o → G p = some o) → DenL K G v d) (motive_3:=fun t v d as _=>(∀ p ∈ as,∀ o,H p = some o → G p = some o) → DenL K G v d) (fun h _=>h.mono c) (fun _=>.non) (fun h _ n r k=>.lst (SqL.of (k _ List.mem_cons_self _ h)) (r fun p hp=>k p (List.mem_cons_of_mem _ hp))) (fun h _ r k=>.tup (c.tup h) (r k)) (fun h q k=>.lst (SqL.of (k _ (List.mem_singleton.mpr rfl) _ h)) (q.mono c)) (fun ho h hn e _ n r k=>e ▸ Den.obj ⟨_,_,k _ List.mem_cons_self _ h,hn⟩ (r fun p hp=>k p (List.mem_cons_of_mem _ hp))) (fun _ q k=>q.mono (same_on k)) (fun _=>.nil) (fun _ _ n h r k=>.cons (h fun p hp=>k p (List.mem_append_left _ hp)) (r fun p hp=>k p (List.mem_append_right _ hp))) (fun _=>.nil) (fun _ _ n h r k=>.cons (h fun p hp=>k p (List.mem_append_left _ hp)) (r fun p hp=>k p (List.mem_append_right _ hp))) h
theorem DenO.lists {t:Ty} {v:V} {d:PyData} {as:List Addr} (h:DenO K H C t v d as):∀ p ∈ as,∃ vs:OwO,H p = some vs.ho:=
  DenO.rec (motive_1:=fun t v d as _=>∀ p ∈ as,∃ vs:OwO,H p = some vs.ho) (motive_2:=fun t v d as _=>∀ p ∈ as,∃ vs:OwO,H p = some vs.ho) (motive_3:=fun t v d as _=>∀ p ∈ as,∃ vs:OwO,H p = some vs.ho) (fun _ p hp=>absurd hp List.not_mem_nil) (fun p hp=>absurd hp List.not_mem_nil) (fun h _ n r p hp=>(List.mem_cons.mp hp).elim (fun z=>⟨.l _,z ▸ h⟩) (r p)) (fun _ _ r p hp=>r p hp) (fun h _ p hp=>⟨.l _,(List.mem_singleton.mp hp) ▸ h⟩) (fun _ h _ _ _ n r p hp=>(List.mem_cons.mp hp).elim (fun z=>⟨.i _ _ _,z ▸ h⟩) (r p)) (fun l _ p hp=>l p hp) (fun p hp=>absurd hp List.not_mem_nil) (fun _ _ n h r p hp=>(List.mem_append.mp hp).elim (h p) (r p)) (fun p hp=>absurd hp List.not_mem_nil) (fun _ _ n h r p hp=>(List.mem_append.mp hp).elim (h p) (r p)) h
theorem DenOs.lists {t:Ty} {v:List V} {d:List PyData} {as:List Addr} (h:DenOs K H C t v d as):∀ p ∈ as,∃ vs:OwO,H p = some vs.ho:=
  DenOs.rec (motive_1:=fun t v d as _=>∀ p ∈ as,∃ vs:OwO,H p = some vs.ho) (motive_2:=fun t v d as _=>∀ p ∈ as,∃ vs:OwO,H p = some vs.ho) (motive_3:=fun t v d as _=>∀ p ∈ as,∃ vs:OwO,H p = some vs.ho) (fun _ p hp=>absurd hp List.not_mem_nil) (fun p hp=>absurd hp List.not_mem_nil) (fun h _ n r p hp=>(List.mem_cons.mp hp).elim (fun z=>⟨.l _,z ▸ h⟩) (r p)) (fun _ _ r p hp=>r p hp) (fun h _ p hp=>⟨.l _,(List.mem_singleton.mp hp) ▸ h⟩) (fun _ h _ _ _ n r p hp=>(List.mem_cons.mp hp).elim (fun z=>⟨.i _ _ _,z ▸ h⟩) (r p)) (fun l _ p hp=>l p hp) (fun p hp=>absurd hp List.not_mem_nil) (fun _ _ n h r p hp=>(List.mem_append.mp hp).elim (h p) (r p)) (fun p hp=>absurd hp List.not_mem_nil) (fun _ _ n h r p hp=>(List.mem_append.mp hp).elim (h p) (r p)) h
theorem DenOp.lists {t:List Ty} {v:List V} {d:List PyData} {as:List Addr} (h:DenOp K H C t v d as):∀ p ∈ as,∃ vs:OwO,H p = some vs.ho:=
  DenOp.rec (motive_1:=fun t v d as _=>∀ p ∈ as,∃ vs:OwO,H p = some vs.ho) (motive_2:=fun t v d as _=>∀ p ∈ as,∃ vs:OwO,H p = some vs.ho) (motive_3:=fun t v d as _=>∀ p ∈ as,∃ vs:OwO,H p = some vs.ho) (fun _ p hp=>absurd hp List.not_mem_nil) (fun p hp=>absurd hp List.not_mem_nil) (fun h _ n r p hp=>(List.mem_cons.mp hp).elim (fun z=>⟨.l _,z ▸ h⟩) (r p)) (fun _ _ r p hp=>r p hp) (fun h _ p hp=>⟨.l _,(List.mem_singleton.mp hp) ▸ h⟩) (fun _ h _ _ _ n r p hp=>(List.mem_cons.mp hp).elim (fun z=>⟨.i _ _ _,z ▸ h⟩) (r p)) (fun l _ p hp=>l p hp) (fun p hp=>absurd hp List.not_mem_nil) (fun _ _ n h r p hp=>(List.mem_append.mp hp).elim (h p) (r p)) (fun p hp=>absurd hp List.not_mem_nil) (fun _ _ n h r p hp=>(List.mem_append.mp hp).elim (h p) (r p)) h
theorem DenL.os {vs:List V} {ds:List PyData} (h:DenL K C vs ds):DenOs K H C .cl vs ds []:=
  DenL.ind (M:=fun vs ds=>DenOs K H C .cl vs ds []) .nil (fun h _ ih=>.cons (as:=[]) (.cl h) ih (fun p hp=>absurd hp List.not_mem_nil)) h
theorem DenOs.ind {t:Ty} {P:List V → List PyData → List Addr → Prop} (h0:P [] [] []) (h1:∀ {v:V} {d:PyData} {vs:List V} {ds:List PyData} {as bs:List Addr},DenO K H C t v d as → DenOs K H C t vs ds bs → (∀ p ∈ as,p ∉ bs) → P vs ds bs → P (v :: vs) (d :: ds) (as ++ bs)) {vs:List V} {ds:List PyData} {as:List Addr} (h:DenOs K H C t vs ds as):P vs ds as:=
  DenOs.rec (motive_1:=fun _ _ _ _ _=>True) (motive_2:=fun t' vs ds as _=>t' = t → P vs ds as) (motive_3:=fun _ _ _ _ _=>True) (fun _=>trivial) trivial (fun _ _ _ _=>trivial) (fun _ _ _=>trivial) (fun _ _=>trivial) (fun _ _ _ _ _ _ _=>trivial) (fun _ _=>trivial) (fun _=>h0) (fun hx r n _ ih e=>by subst e; exact h1 hx r n (ih rfl)) trivial (fun _ _ _ _ _=>trivial) h rfl
theorem DenOp.ind {P:List Ty → List V → List PyData → List Addr → Prop} (h0:P [] [] [] []) (h1:∀ {t:Ty} {ts:List Ty} {v:V} {d:PyData} {vs:List V} {ds:List PyData} {as bs:List Addr},DenO K H C t v d as → DenOp K H C ts vs ds bs → (∀ p ∈ as,p ∉ bs) → P ts vs ds bs → P (t :: ts) (v :: vs) (d :: ds) (as ++ bs)) {ts:List Ty} {vs:List V} {ds:List PyData} {as:List Addr} (h:DenOp K H C ts vs ds as):P ts vs ds as:=
  DenOp.rec (motive_1:=fun _ _ _ _ _=>True) (motive_2:=fun _ _ _ _ _=>True) (motive_3:=fun ts vs ds as _=>P ts vs ds as) (fun _=>trivial) trivial (fun _ _ _ _=>trivial) (fun _ _ _=>trivial) (fun _ _=>trivial) (fun _ _ _ _ _ _ _=>trivial) (fun _ _=>trivial) trivial (fun _ _ _ _ _=>trivial) h0 (fun h r n _ ih=>h1 h r n ih) h
theorem DenOs.dl {vs:List V} {ds:List PyData} {as:List Addr} (h:DenOs K H C .cl vs ds as):DenL K C vs ds ∧ as = []:=
  DenOs.rec (motive_1:=fun t v d as _=>t = .cl → Den K C v d ∧ as = []) (motive_2:=fun t vs ds as _=>t = .cl → DenL K C vs ds ∧ as = []) (motive_3:=fun _ _ _ _ _=>True) (fun h _=>⟨h,rfl⟩) (fun _=>⟨.non,rfl⟩) (fun _ _ _ _ e=>Ty.noConfusion e) (fun _ _ _ e=>Ty.noConfusion e) (fun _ _ e=>Ty.noConfusion e) (fun _ _ _ _ _ _ _ e=>Ty.noConfusion e) (fun _ _ e=>Ty.noConfusion e) (fun _=>⟨.nil,rfl⟩) (fun _ _ n h r e=>⟨.cons (h e).1 (r e).1,by rw [(h e).2,(r e).2]; rfl⟩) trivial (fun _ _ _ _ _=>trivial) h rfl
theorem DenO.den {v:V} {d:PyData} {as:List Addr} (h:DenO K H C .cl v d as):Den K C v d:=by
  cases h with
  | cl h=>exact h
  | non=>exact .non
theorem DenOs.length {t:Ty} {vs:List V} {ds:List PyData} {as:List Addr} (h:DenOs K H C t vs ds as):vs.length = ds.length:=
  DenOs.rec (motive_1:=fun _ _ _ _ _=>True) (motive_2:=fun _ vs ds _ _=>vs.length = ds.length) (motive_3:=fun _ _ _ _ _=>True) (fun _=>trivial) trivial (fun _ _ _ _=>trivial) (fun _ _ _=>trivial) (fun _ _=>trivial) (fun _ _ _ _ _ _ _=>trivial) (fun _ _=>trivial) rfl (fun _ _ _ _ r=>congrArg (· + 1) r) trivial (fun _ _ _ _ _=>trivial) h
theorem DenOp.length {ts:List Ty} {vs:List V} {ds:List PyData} {as:List Addr} (h:DenOp K H C ts vs ds as):vs.length = ds.length:=
  DenOp.rec (motive_1:=fun _ _ _ _ _=>True) (motive_2:=fun _ _ _ _ _=>True) (motive_3:=fun _ vs ds _ _=>vs.length = ds.length) (fun _=>trivial) trivial (fun _ _ _ _=>trivial) (fun _ _ _=>trivial) (fun _ _=>trivial) (fun _ _ _ _ _ _ _=>trivial) (fun _ _=>trivial) trivial (fun _ _ _ _ _=>trivial) rfl (fun _ _ _ _ r=>congrArg (· + 1) r) h
theorem DenOs.item {t:Ty} {vs:List V} {ds:List PyData} {as:List Addr} (h:DenOs K H C t vs ds as):∀ {j:Nat} {d:PyData},ds[j]? = some d →
    ∃ v bs,vs[j]? = some v ∧ DenO K H C t v d bs ∧ (∀ p ∈ bs,p ∈ as) ∧ ∀ (H' C':Hp) (e:PyData),Same C C' → DenO K H' C' t v e bs → (∀ p ∈ as,p ∉ bs → ∀ o,H p = some o → H' p = some o) → DenOs K H' C' t vs (ds.set j e) as:=
  DenOs.ind (P:=fun vs ds as=>∀ {j:Nat} {d:PyData},ds[j]? = some d → ∃ v bs,vs[j]? = some v ∧ DenO K H C t v d bs ∧ (∀ p ∈ bs,p ∈ as) ∧ ∀ (H' C':Hp) (e:PyData),Same C C' → DenO K H' C' t v e bs → (∀ p ∈ as,p ∉ bs → ∀ o,H p = some o → H' p = some o) → DenOs K H' C' t vs (ds.set j e) as)
    (fun e=>L2.no_ns e) (fun {v d0 vs ds as bs} h r n ih {j d} e=>by
      cases j with
      | zero=>
        obtain rfl:=Option.some.inj e
        exact L2.i_EEAAA (v) (as) (rfl) (h) (fun p hp=>List.mem_append_left _ hp) (fun H' C' e c h' k=>.cons h' (r.mono c fun p hp o q=>k p (List.mem_append_right _ hp) (fun z=>n p z hp) o q) n)
      | succ j=>
        refine L2.o_EEAAA (ih (j:=j) (d:=d) e) fun w cs h1 h2 h3 h4=>?_
        exact L2.i_EEAAA (w) (cs) (h1) (h2) (fun p hp=>List.mem_append_right _ (h3 p hp)) (fun H' C' e c h' k=>.cons (h.mono c fun p hp o q=>k p (List.mem_append_left _ hp) (fun z=>n p hp (h3 p z)) o q) (h4 H' C' e c h' fun p hp hn o q=>k p (List.mem_append_right _ hp) hn o q) n)) h
theorem DenOp.item {ts:List Ty} {vs:List V} {ds:List PyData} {as:List Addr} (h:DenOp K H C ts vs ds as):∀ {j:Nat} {d:PyData},ds[j]? = some d →
    ∃ t v bs,ts[j]? = some t ∧ vs[j]? = some v ∧ DenO K H C t v d bs ∧ (∀ p ∈ bs,p ∈ as) ∧ ∀ (H' C':Hp) (e:PyData),Same C C' → DenO K H' C' t v e bs → (∀ p ∈ as,p ∉ bs → ∀ o,H p = some o → H' p = some o) → DenOp K H' C' ts vs (ds.set j e) as:=
  DenOp.ind (P:=fun ts vs ds as=>∀ {j:Nat} {d:PyData},ds[j]? = some d → ∃ t v bs,ts[j]? = some t ∧ vs[j]? = some v ∧ DenO K H C t v d bs ∧ (∀ p ∈ bs,p ∈ as) ∧ ∀ (H' C':Hp) (e:PyData),Same C C' → DenO K H' C' t v e bs → (∀ p ∈ as,p ∉ bs → ∀ o,H p = some o → H' p = some o) → DenOp K H' C' ts vs (ds.set j e) as)
    (fun e=>L2.no_ns e) (fun {t ts v d0 vs ds as bs} h r n ih {j d} e=>by
      cases j with
      | zero=>
        obtain rfl:=Option.some.inj e
        exact L2.i_EEEAAAA (t) (v) (as) (rfl) (rfl) (h) (fun p hp=>List.mem_append_left _ hp) (fun H' C' e c h' k=>.cons h' (r.mono c fun p hp o q=>k p (List.mem_append_right _ hp) (fun z=>n p z hp) o q) n)
      | succ j=>
        refine L2.o_EEEAAAA (ih (j:=j) (d:=d) e) fun t' w cs h0 h1 h2 h3 h4=>?_
        exact L2.i_EEEAAAA (t') (w) (cs) (h0) (h1) (h2) (fun p hp=>List.mem_append_right _ (h3 p hp)) (fun H' C' e c h' k=>.cons (h.mono c fun p hp o q=>k p (List.mem_append_left _ hp) (fun z=>n p hp (h3 p z)) o q) (h4 H' C' e c h' fun p hp hn o q=>k p (List.mem_append_right _ hp) hn o q) n)) h
noncomputable def isL:PyData → Option (List PyData)
  | .list ds=>some ds
  | _=>none
noncomputable def isTu:PyData → Option (List PyData)
  | .tuple ds=>some ds
  | _=>none
noncomputable def itsD:PyData → List PyData
  | .list ds=>ds
  | .tuple ds=>ds
  | _=>[]
noncomputable def kidD (ds:List PyData) (k:Int):Option PyData:=(ixN ds.length k).bind fun j=>ds[j]?
noncomputable def getP:PyData → List Int → Option (List PyData)
  | d,[]=>isL d
  | d,k :: r=>(kidD (itsD d) k).bind fun e=>getP e r
noncomputable def chgL (ds:List PyData) (k:Int) (f:PyData → PyData):List PyData:=(ixN ds.length k).elim ds fun j=>ds.set j (f (ds.getD j .none))
noncomputable def chgD (d:PyData) (k:Int) (f:PyData → PyData):PyData:=match d with
  | .list ds=>.list (chgL ds k f)
  | .tuple ds=>.tuple (chgL ds k f)
  | d=>d
noncomputable def setL (d:PyData) (es:List PyData):PyData:=match d with
  | .list _=>.list es
  | d=>d
noncomputable def setP:PyData → List Int → List PyData → PyData
  | d,[],es=>setL d es
  | d,k :: r,es=>chgD d k fun e=>setP e r es
noncomputable def Ty.isCl:Ty → Bool
  | .cl=>true
  | _=>false
noncomputable def Ty.leaf:Ty → Bool
  | .lst t=>t.isCl
  | .io _=>true
  | _=>false
noncomputable def tyK (T:Ty) (d:PyData) (k:Int):Option (Ty × PyData):=match T with
  | .lst t=>(isL d).bind fun ds=>(kidD ds k).map fun e=>(t,e)
  | .tup ts=>(isTu d).bind fun ds=>(ixN ds.length k).bind fun j=>(ds[j]?).map fun e=>(ts.getD j .cl,e)
  | _=>none
noncomputable def tyP:Ty → PyData → List Int → Bool
  | T,d,[]=>T.leaf && (isL d).isSome
  | T,d,k :: r=>(tyK T d k).any fun q=>tyP q.1 q.2 r
theorem kid_some {ds:List PyData} {k:Int} {β:Type} {g:PyData → Option β} {r:β} (h:(kidD ds k).bind g = some r):∃ j d,ixN ds.length k = some j ∧ ds[j]? = some d ∧ g d = some r:=by
  unfold kidD at h
  cases hj:ixN ds.length k with
  | none=>rw [hj] at h; exact L2.no_ns h
  | some j=>
    rw [hj,Option.bind_some] at h
    cases hd:ds[j]? with
    | none=>rw [hd] at h; exact L2.no_ns h
    | some d=>rw [hd] at h; exact ⟨j,d,rfl,hd,h⟩
theorem kid_is {ds:List PyData} {k:Int} {j:Nat} {d:PyData} (h1:ixN ds.length k = some j) (h2:ds[j]? = some d):kidD ds k = some d:=by
  unfold kidD
  rw [h1,Option.bind_some,h2]
inductive AtP (K:PySem.W.Frag) (H C:Hp):V → List Int → Addr → Prop
  | here {l:Addr}:AtP K H C (.ref l) [] l
  | inL {a:Addr} {vs:List V} {k:Int} {r:List Int} {w:V} {l:Addr}:H a = some (.lst vs) → atI vs k = some w → AtP K H C w r l → AtP K H C (.ref a) (k :: r) l
  | inT {a:Addr} {vs:List V} {k:Int} {r:List Int} {w:V} {l:Addr}:SqT K C a vs → atI vs k = some w → AtP K H C w r l → AtP K H C (.ref a) (k :: r) l
theorem getD_some {ds:List PyData} {j:Nat} {d:PyData} (h:ds[j]? = some d):ds.getD j .none = d:=by
  rw [List.getD_eq_getElem?_getD,h]; rfl
theorem chgL_is {ds:List PyData} {k:Int} {j:Nat} {d:PyData} {f:PyData → PyData} (h1:ixN ds.length k = some j) (h2:ds[j]? = some d):chgL ds k f = ds.set j (f d):=by
  unfold chgL
  rw [h1,Option.elim_some,getD_some h2]
theorem DenO.focus (path:List Int):∀ {T:Ty} {v:V} {d:PyData} {as:List Addr} {ds:List PyData},DenO K H C T v d as → tyP T d path = true → getP d path = some ds →
    ∃ l vs,AtP K H C v path l ∧ H l = some (.lst vs) ∧ DenL K C vs ds ∧ l ∈ as ∧ ∀ (H' C':Hp) (ws:List V) (es:List PyData),Same C C' → H' l = some (.lst ws) → (∀ p ∈ as,p ≠ l → ∀ o,H p = some o → H' p = some o) → DenL K C' ws es → DenO K H' C' T v (setP d path es) as:=by
  induction path with
  | nil=>
    intro T v d as ds h ht hg
    cases h with
    | cl h=>exact L2.no_ft ht
    | non=>exact L2.no_ns hg
    | tup h r=>exact L2.no_ns hg
    | @lst t a vs ds' as h r n=>
      have htc:t = .cl:=by cases t <;> first | rfl | exact L2.no_ft ht
      subst htc
      obtain rfl:=Option.some.inj hg
      refine L2.o_A (r.dl) fun h1 zq1=>?_
      subst zq1
      exact L2.i_EEAAAA (a) (vs) (.here) (h) (h1) (List.mem_cons_self) (fun H' C' ws es c hw k he=>.lst hw he.os n)
    | @io l vs ds' h q=>
      obtain rfl:=Option.some.inj hg
      exact L2.i_EEAAAA (l) (vs) (.here) (h) (q) (List.mem_singleton.mpr rfl) (fun H' C' ws es c hw k he=>.io hw he)
    | rc _ _ _ _ _ _=>exact L2.no_ft ht
    | nw _ _=>exact L2.no_ft ht
  | cons k r ih=>
    intro T v d as ds h ht hg
    cases h with
    | cl h=>exact L2.no_ft ht
    | io h q=>exact L2.no_ft ht
    | rc _ _ _ _ _ _=>exact L2.no_ft ht
    | nw _ _=>exact L2.no_ft ht
    | non=>cases T <;> exact L2.no_ft ht
    | @lst t a vs ds' as h q n=>
      refine L2.o_EEAA (kid_some (ds:=ds') hg) fun j d' hj hd hg=>?_
      have ht':tyP t d' r = true:=by
        have e:tyK (.lst t) (.list ds') k = some (t,d'):=congrArg (Option.map fun e=>(t,e)) (kid_is hj hd)
        rw [tyP,e] at ht
        exact ht
      refine L2.o_EEAAA (q.item hd) fun w bs h1 h2 h3 h4=>?_
      refine L2.o_EEAAAA (ih h2 ht' hg) fun l us g1 g2 g3 g4 g5=>?_
      have hat:atI vs k = some w:=by
        unfold atI
        rw [q.length,hj]
        exact h1
      refine L2.i_EEAAAA (l) (us) (.inL h hat g1) (g2) (g3) (List.mem_cons_of_mem _ (h3 l g4)) (fun H' C' ws es c hw kk he=>?_)
      have hal:a ≠ l:=fun z=>n (z ▸ h3 l g4)
      rw [show setP (.list ds') (k :: r) es = .list (ds'.set j (setP d' r es)) from congrArg PyData.list (chgL_is hj hd)]
      exact .lst (kk a List.mem_cons_self hal _ h) (h4 H' C' _ c (g5 H' C' ws es c hw (fun p hp hne o qq=>kk p (List.mem_cons_of_mem _ (h3 p hp)) hne o qq) he) fun p hp hn o qq=>kk p (List.mem_cons_of_mem _ hp) (fun z=>hn (z ▸ g4)) o qq) n
    | @tup ts a vs ds' as h q=>
      refine L2.o_EEAA (kid_some (ds:=ds') hg) fun j d' hj hd hg=>?_
      refine L2.o_EEEAAAA (q.item hd) fun t w bs h0 h1 h2 h3 h4=>?_
      have ht':tyP t d' r = true:=by
        have e:tyK (.tup ts) (.tuple ds') k = some (t,d'):=by
          show ((ixN ds'.length k).bind fun j=>(ds'[j]?).map fun e=>(ts.getD j .cl,e)) = _
          rw [hj,Option.bind_some,hd,List.getD_eq_getElem?_getD,h0]
          rfl
        rw [tyP,e] at ht
        exact ht
      refine L2.o_EEAAAA (ih h2 ht' hg) fun l us g1 g2 g3 g4 g5=>?_
      have hat:atI vs k = some w:=by
        unfold atI
        rw [q.length,hj]
        exact h1
      refine L2.i_EEAAAA (l) (us) (.inT h hat g1) (g2) (g3) (h3 l g4) (fun H' C' ws es c hw kk he=>?_)
      rw [show setP (.tuple ds') (k :: r) es = .tuple (ds'.set j (setP d' r es)) from congrArg PyData.tuple (chgL_is hj hd)]
      exact .tup (c.tup h) (h4 H' C' _ c (g5 H' C' ws es c hw (fun p hp hne o qq=>kk p (h3 p hp) hne o qq) he) fun p hp hn o qq=>kk p hp (fun z=>hn (z ▸ g4)) o qq)
end
structure Ow where
  s:List (Nat × Ty)
  r:Ty:=.cl
noncomputable def OwnA (K:PySem.W.Frag) (O:Ow) (hid:Addr → Prop) (σ:St) (H:Hp) (ρ:Rho) (ow:List Addr) (A:Nat → List Addr):Prop:=
  (∀ i t d,O.s.lookup i = some t → ρ[i]? = some (some d) → ∃ v,σ[i]? = some (some v) ∧ DenO K H (del H (uni hid ow)) t v d (A i)) ∧ (∀ i j p,i ≠ j → p ∈ A i → p ∉ A j) ∧ (∀ i p,p ∈ A i → p ∈ ow)
structure EnvOk (K:PySem.W.Frag) (O:Ow) (hid:Addr → Prop) (H0:Hp) (σ:St) (H:Hp) (ρ:Rho) (ow:List Addr):Prop where
  len:ρ.length = σ.length
  base:Same H0 (del H fun b=>b ∈ ow)
  val:∀ i d,O.s.lookup i = none → ρ[i]? = some (some d) → ∃ v,σ[i]? = some (some v) ∧ Den K (del H (uni hid ow)) v d
  own:∃ A,OwnA K O hid σ H ρ ow A
  isl:∀ l ∈ ow,(∃ vs:OwO,H l = some vs.ho) ∧ ¬ hid l
  ishL:∀ b,hid b → ∃ vs:OwO,H b = some vs.ho
  emp:O.s = [] → ow = []
section
variable {K:PySem.W.Frag} {O:Ow} {hid:Addr → Prop} {H0 H H':Hp} {σ:St} {ρ:Rho} {ow:List Addr} {A:Nat → List Addr}
theorem OwnA.mono (a:OwnA K O hid σ H ρ ow A) (h:Same H H'):OwnA K O hid σ H' ρ ow A:=
  ⟨fun i t d hi hd=>let ⟨v,q,r⟩:=a.1 i t d hi hd; ⟨v,q,r.mono (del_mono h _) fun p _ o e=>h p o e⟩,a.2⟩
theorem EnvOk.mono (e:EnvOk K O hid H0 σ H ρ ow) (h:Same H H'):EnvOk K O hid H0 σ H' ρ ow:=
  ⟨e.len,e.base.trans (del_mono h _),fun i d hi hd=>let ⟨v,a,b⟩:=e.val i d hi hd; ⟨v,a,b.mono (del_mono h _)⟩,
    let ⟨A,a⟩:=e.own; ⟨A,a.mono h⟩,fun l hl=>let ⟨⟨vs,q⟩,n⟩:=e.isl l hl; ⟨⟨vs,h _ _ q⟩,n⟩,
    fun b hb=>let ⟨vs,q⟩:=e.ishL b hb; ⟨vs,h _ _ q⟩,e.emp⟩
theorem EnvOk.ish (e:EnvOk K O hid H0 σ H ρ ow):∀ b,hid b → H b ≠ none:=fun b hb z=>by
  refine L2.o_E (e.ishL b hb) fun vs q=>?_
  rw [z] at q; cases q
theorem EnvOk.uniL (e:EnvOk K O hid H0 σ H ρ ow):∀ b,uni hid ow b → ∃ vs:OwO,H b = some vs.ho:=fun b hb=>by
  rcases hb with hb | hb
  · exact e.ishL b hb
  · exact (e.isl b hb).1
theorem EnvOk.fresh (e:EnvOk K O hid H0 σ H ρ ow) {p:Addr} (h:H p = none):¬ uni hid ow p:=by
  rintro (z | z)
  · exact e.ish p z h
  · obtain ⟨⟨vs,q⟩,_⟩:=e.isl p z
    rw [h] at q; cases q
theorem EnvOk.lists (e:EnvOk K O hid H0 σ H ρ ow):∀ l ∈ ow,∃ vs:OwO,H l = some vs.ho:=fun l h=>(e.isl l h).1
theorem EnvOk.ow0 (e:EnvOk K O hid H0 σ H ρ ow) {p:Addr} (h:p ∈ ow):H0 p = none:=by
  cases q:H0 p with
  | none=>rfl
  | some o=>
    have:=e.base p o q
    rw [del_in h] at this
    exact L2.no_ns this
theorem EnvOk.raw (e:EnvOk K O hid H0 σ H ρ ow) {i:Nat} {d:PyData} (h:ρ[i]? = some (some d)):∃ v,σ[i]? = some (some v) ∧ Den K (del H hid) v d:=by
  cases hi:O.s.lookup i with
  | some t=>
    refine L2.o_EAA (e.own) fun A a1 a2 a3=>?_
    refine L2.o_EA (a1 i t d hi h) fun v q r=>?_
    exact ⟨v,q,r.raw (del_uni _ _ _) fun p hp o q=>by rw [del_out (e.isl p (a3 i p hp)).2]; exact q⟩
  | none=>
    refine L2.o_EA (e.val i d hi h) fun v a b=>?_
    exact ⟨v,a,b.mono (del_uni _ _ _)⟩
theorem EnvOk.newAt (e:EnvOk K O hid H0 σ H ρ ow) {p:Addr} {o:HO} (h:H p = none):del (upd H p o) (uni hid ow) p = some o:=by rw [del_out (e.fresh h),upd_same]
theorem set_two {ρ:Rho} {i j:Nat} {d:PyData} {x:Option PyData} (q:(ρ.set i (some d))[j]? = some x):(j = i ∧ x = some d ∧ i < ρ.length) ∨ (j ≠ i ∧ ρ[j]? = some x):=by
  by_cases hj:j = i
  · subst hj
    have hl:j < ρ.length:=by have:=(List.getElem?_eq_some_iff.mp q).1; simpa using this
    rw [List.getElem?_set_self hl] at q
    exact .inl ⟨rfl,(Option.some.inj q).symm,hl⟩
  · rw [List.getElem?_set_ne (Ne.symm hj)] at q
    exact .inr ⟨hj,q⟩
theorem EnvOk.set (e:EnvOk K O hid H0 σ H ρ ow) {i:Nat} {v:V} {d:PyData} (hi:O.s.lookup i = none) (h:Den K (del H (uni hid ow)) v d):EnvOk K O hid H0 (σ.set i (some v)) H (ρ.set i (some d)) ow:=by
  refine ⟨by simpa using e.len,e.base,fun j x hj q=>?_,?_,e.isl,e.ishL,e.emp⟩
  · rcases set_two q with ⟨rfl,z,hl⟩ | ⟨hne,z⟩
    · obtain rfl:=Option.some.inj z
      exact ⟨v,List.getElem?_set_self (by rw [← e.len]; exact hl),h⟩
    · refine L2.o_EA (e.val j x hj z) fun w a b=>?_
      exact ⟨w,by rw [List.getElem?_set_ne (Ne.symm hne)]; exact a,b⟩
  · refine L2.o_EAA (e.own) fun A a1 a2 a3=>?_
    refine ⟨A,fun j t x hj q=>?_,a2,a3⟩
    have hne:j ≠ i:=fun z=>by rw [z,hi] at hj; cases hj
    rw [List.getElem?_set_ne (Ne.symm hne)] at q
    refine L2.o_EA (a1 j t x hj q) fun w a b=>?_
    exact ⟨w,by rw [List.getElem?_set_ne (Ne.symm hne)]; exact a,b⟩
theorem EnvOk.setT (e:EnvOk K O hid H0 σ H ρ ow) (s:Same H H') {i:Nat} {t:Ty} {v:V} {d:PyData} {as:List Addr} (hi:O.s.lookup i = some t) (hl:∀ p ∈ as,H p = none) (h:DenO K H' (del H' (uni hid (as ++ ow))) t v d as) :
    EnvOk K O hid H0 (σ.set i (some v)) H' (ρ.set i (some d)) (as ++ ow):=by
  have nl:∀ p ∈ as,¬ uni hid ow p:=fun p hp=>e.fresh (hl p hp)
  have gen:∀ P Q:Addr → Prop,(∀ b,Q b → P b ∨ b ∈ as) → Same (del H P) (del H' Q):=fun P Q hq b u z=>by
    by_cases hb:P b
    · rw [del_in hb] at z; cases z
    · rw [del_out hb] at z
      rw [del_out fun y=>?_]
      · exact s b u z
      · rcases hq b y with y | y
        · exact hb y
        · rw [hl b y] at z; cases z
  have sub:Same (del H (uni hid ow)) (del H' (uni hid (as ++ ow))):=gen _ _ fun b z=>by
    rcases z with z | z
    · exact .inl (.inl z)
    · rcases List.mem_append.mp z with z | z
      · exact .inr z
      · exact .inl (.inr z)
  have subO:Same (del H fun b=>b ∈ ow) (del H' fun b=>b ∈ as ++ ow):=gen _ _ fun b z=>by
    rcases List.mem_append.mp z with z | z
    · exact .inr z
    · exact .inl z
  refine ⟨by simpa using e.len,e.base.trans subO,fun j x hj q=>?_,?_,fun l2 h2=>?_,fun b hb=>let ⟨vs,q⟩:=e.ishL b hb; ⟨vs,s _ _ q⟩,fun z=>by rw [z] at hi; cases hi⟩
  · have hne:j ≠ i:=fun z=>by rw [z,hi] at hj; cases hj
    rw [List.getElem?_set_ne (Ne.symm hne)] at q
    refine L2.o_EA (e.val j x hj q) fun w a b=>?_
    exact ⟨w,by rw [List.getElem?_set_ne (Ne.symm hne)]; exact a,b.mono sub⟩
  · refine L2.o_EAA (e.own) fun A a1 a2 a3=>?_
    refine ⟨fun j=>if j = i then as else A j,fun j t' x hj q=>?_,fun j k p hjk hp hk=>?_,fun j p hp=>?_⟩
    · rcases set_two q with ⟨rfl,z,hz⟩ | ⟨hne,z⟩
      · obtain rfl:=Option.some.inj z
        rw [hi] at hj
        obtain rfl:=Option.some.inj hj
        exact ⟨v,List.getElem?_set_self (by rw [← e.len]; exact hz),by dsimp only; rw [if_pos rfl]; exact h⟩
      · refine L2.o_EA (a1 j t' x hj z) fun w a b=>?_
        refine ⟨w,by rw [List.getElem?_set_ne (Ne.symm hne)]; exact a,?_⟩
        dsimp only
        rw [if_neg hne]
        exact b.mono sub fun p _ o q=>s p o q
    · dsimp only at hp hk
      split at hp
      · split at hk
        · subst_vars; exact hjk rfl
        · exact nl p hp (.inr (a3 k p hk))
      · split at hk
        · exact nl p hk (.inr (a3 j p hp))
        · exact a2 j k p hjk hp hk
    · dsimp only at hp
      split at hp
      · exact List.mem_append_left _ hp
      · exact List.mem_append_right _ (a3 j p hp)
  · rcases List.mem_append.mp h2 with h2 | h2
    · exact ⟨h.lists l2 h2,fun z=>nl l2 h2 (.inl z)⟩
    · obtain ⟨⟨ws,q⟩,n⟩:=e.isl l2 h2
      exact ⟨⟨ws,s _ _ q⟩,n⟩
noncomputable def hid2 (hid:Addr → Prop) (H:Hp) (as:List Addr):Addr → Prop:=fun b=>hid b ∨ (b ∈ as ∧ H b = none)
theorem hid2_same (s:Same H H') (as:List Addr):Same (del H (uni hid ow)) (del H' (uni (hid2 hid H as) ow)):=fun b o e=>by
  by_cases hb:uni hid ow b
  · rw [del_in hb] at e; cases e
  · rw [del_out hb] at e
    rw [del_out fun z=>?_]
    · exact s b o e
    · rcases z with (z | ⟨_,z⟩) | z
      · exact hb (.inl z)
      · rw [z] at e; cases e
      · exact hb (.inr z)
theorem OwnA.hide (a:OwnA K O hid σ H ρ ow A) (s:Same H H') (as:List Addr):OwnA K O (hid2 hid H as) σ H' ρ ow A:=
  ⟨fun i t d hi hd=>let ⟨v,q,r⟩:=a.1 i t d hi hd; ⟨v,q,r.mono (hid2_same s as) fun p _ o e=>s p o e⟩,a.2⟩
theorem EnvOk.hide (e:EnvOk K O hid H0 σ H ρ ow) (s:Same H H') (as:List Addr) (hn:∀ p ∈ as,∃ vs:OwO,H' p = some vs.ho):EnvOk K O (hid2 hid H as) H0 σ H' ρ ow:=
  ⟨e.len,e.base.trans (del_mono s _),fun i d hi hd=>let ⟨v,a,b⟩:=e.val i d hi hd; ⟨v,a,b.mono (hid2_same s as)⟩,
    let ⟨A,a⟩:=e.own; ⟨A,a.hide s as⟩,fun l hl=>let ⟨⟨vs,q⟩,n⟩:=e.isl l hl; ⟨⟨vs,s _ _ q⟩,fun z=>by
      rcases z with z | ⟨_,z⟩
      · exact n z
      · rw [z] at q; cases q⟩,
    fun b hb=>by
      rcases hb with hb | ⟨hb,_⟩
      · obtain ⟨vs,q⟩:=e.ishL b hb; exact ⟨vs,s _ _ q⟩
      · exact hn b hb,e.emp⟩
theorem EnvOk.at0 (e:EnvOk K O hid H0 σ H ρ ow) {i:Nat} {ds:List PyData} (hi:O.s.lookup i = some (.lst .cl)) (hρ:ρ[i]? = some (some (.list ds))) :
    ∃ l vs,σ[i]? = some (some (.ref l)) ∧ H l = some (.lst vs) ∧ DenL K (del H (uni hid ow)) vs ds ∧ l ∈ ow ∧
      ∀ H',Same H H' → ∀ ws es,DenL K (del H' (uni hid ow)) ws es → EnvOk K O hid H0 σ (upd H' l (.lst ws)) (ρ.set i (some (.list es))) ow:=by
  refine L2.o_EAA (e.own) fun A a1 a2 a3=>?_
  refine L2.o_EA (a1 i _ _ hi hρ) fun v hv D=>?_
  generalize hA:A i = Ai at D
  cases D with
  | @lst _ l vs _ as q r n=>
    refine L2.o_A (r.dl) fun dl zq1=>?_
    subst zq1
    have hA':l ∈ A i:=by rw [hA]; exact List.mem_singleton.mpr rfl
    have hl:=a3 i l hA'
    refine L2.i_EEAAAA (l) (vs) (hv) (q) (dl) (hl) (fun H' s ws es he=>?_)
    have e':=e.mono s
    have ed:del (upd H' l (.lst ws)) (uni hid ow) = del H' (uni hid ow):=del_upd (uni_in hl)
    have eo:del (upd H' l (.lst ws)) (fun b=>b ∈ ow) = del H' (fun b=>b ∈ ow):=del_upd hl
    refine ⟨by simpa using e.len,by rw [eo]; exact e'.base,fun j x hj q=>?_,⟨A,fun j t' x hj q=>?_,a2,a3⟩,fun l2 h2=>?_,fun b hb=>?_,e.emp⟩
    · have hne:j ≠ i:=fun z=>by rw [z,hi] at hj; cases hj
      rw [List.getElem?_set_ne (Ne.symm hne)] at q
      rw [ed]
      exact e'.val j x hj q
    · rw [ed]
      rcases set_two q with ⟨rfl,z,hz⟩ | ⟨hne,z⟩
      · obtain rfl:=Option.some.inj z
        rw [hi] at hj
        obtain rfl:=Option.some.inj hj
        refine ⟨.ref l,hv,?_⟩
        rw [hA]
        exact .lst upd_same he.os (by simp)
      · refine L2.o_EA (a1 j t' x hj z) fun w a b=>?_
        exact ⟨w,a,b.mono (del_mono s _) fun p hp o q=>by rw [upd_ne (show p ≠ l from fun y=>a2 j i p hne hp (by rw [y]; exact hA'))]; exact s _ _ q⟩
    · obtain ⟨⟨vs2,q⟩,n⟩:=e'.isl l2 h2
      refine ⟨?_,n⟩
      by_cases hne:l2 = l
      · subst hne; exact ⟨.l ws,upd_same⟩
      · exact ⟨vs2,by rw [upd_ne hne]; exact q⟩
    · have hne:b ≠ l:=fun z2=>(e.isl l hl).2 (z2 ▸ hb)
      rw [upd_ne hne]
      exact e'.ishL b hb
theorem getP_nil {d:PyData} {ds:List PyData} (h:getP d [] = some ds):d = .list ds:=by
  cases d <;> first | (cases h; rfl) | cases h
theorem EnvOk.at (e:EnvOk K O hid H0 σ H ρ ow) {i:Nat} {t:Ty} {d:PyData} {path:List Int} {ds:List PyData} (hi:O.s.lookup i = some t) (hρ:ρ[i]? = some (some d)) (ht:tyP t d path = true) (hg:getP d path = some ds) :
    ∃ v l vs,σ[i]? = some (some v) ∧ AtP K H (del H (uni hid ow)) v path l ∧ H l = some (.lst vs) ∧ DenL K (del H (uni hid ow)) vs ds ∧ l ∈ ow ∧
      ∀ H',Same H H' → ∀ ws es,DenL K (del H' (uni hid ow)) ws es → EnvOk K O hid H0 σ (upd H' l (.lst ws)) (ρ.set i (some (setP d path es))) ow:=by
  refine L2.o_EAA (e.own) fun A a1 a2 a3=>?_
  refine L2.o_EA (a1 i t d hi hρ) fun v hv D=>?_
  refine L2.o_EEAAAA (D.focus path ht hg) fun l vs g1 g2 g3 g4 g5=>?_
  have hl:=a3 i l g4
  refine L2.i_EEEAAAAA (v) (l) (vs) (hv) (g1) (g2) (g3) (hl) (fun H' s ws es he=>?_)
  have e':=e.mono s
  have ed:del (upd H' l (.lst ws)) (uni hid ow) = del H' (uni hid ow):=del_upd (uni_in hl)
  have eo:del (upd H' l (.lst ws)) (fun b=>b ∈ ow) = del H' (fun b=>b ∈ ow):=del_upd hl
  have hil:i < ρ.length:=(List.getElem?_eq_some_iff.mp hρ).1
  refine ⟨by simpa using e.len,by rw [eo]; exact e'.base,fun j x hj q=>?_,⟨A,fun j t' x hj q=>?_,a2,a3⟩,fun l2 h2=>?_,fun b hb=>?_,e.emp⟩
  · have hne:j ≠ i:=fun z=>by rw [z,hi] at hj; cases hj
    rw [List.getElem?_set_ne (Ne.symm hne)] at q
    rw [ed]
    exact e'.val j x hj q
  · rw [ed]
    rcases set_two q with ⟨rfl,z,hz⟩ | ⟨hne,z⟩
    · obtain rfl:=Option.some.inj z
      rw [hi] at hj
      obtain rfl:=Option.some.inj hj
      exact ⟨v,hv,g5 _ _ ws es (del_mono s _) upd_same (fun p _ hne o q=>by rw [upd_ne hne]; exact s _ _ q) he⟩
    · refine L2.o_EA (a1 j t' x hj z) fun w a b=>?_
      exact ⟨w,a,b.mono (del_mono s _) fun p hp o q=>by rw [upd_ne (show p ≠ l from fun y=>a2 j i p hne hp (by rw [y]; exact g4))]; exact s _ _ q⟩
  · obtain ⟨⟨vs2,q⟩,n⟩:=e'.isl l2 h2
    refine ⟨?_,n⟩
    by_cases hne:l2 = l
    · subst hne; exact ⟨.l ws,upd_same⟩
    · exact ⟨vs2,by rw [upd_ne hne]; exact q⟩
  · have hne:b ≠ l:=fun z2=>(e.isl l hl).2 (z2 ▸ hb)
    rw [upd_ne hne]
    exact e'.ishL b hb
end
end L2
namespace L2
open PySem PySem.Spec PyProof.Rows
variable [Reg]
inductive At5 {α:Type} (K:PySem.W.Frag) (O:Ow) (f:Rho → Option α) (σ:St) (H:Hp) (R:(Addr → Prop) → Hp → Rho → List Addr → α → Prop):Prop
  | mk (hid:Addr → Prop) (H0:Hp) (ρ:Rho) (ow:List Addr) (d:α) (E:EnvOk K O hid H0 σ H ρ ow) (hf:f ρ = some d) (k:R hid H0 ρ ow d):At5 K O f σ H R
section
variable (K:PySem.W.Frag) (O:Ow)
noncomputable def tR (f:Rho → Option PyData):TE:=fun σ H Q=>At5 K O f σ H fun hid H0 ρ ow d=>∀ v H',Same H H' → Den K (del H' hid) v d → Q v H'
noncomputable def tV (f:Rho → Option PyData):TE:=fun σ H Q=>At5 K O f σ H fun hid H0 ρ ow d=>∀ v H',Same H H' → Den K (del H' (uni hid ow)) v d → Q v H'
noncomputable def tFr (f:Rho → Option (List PyData)):TE:=fun σ H Q=>At5 K O f σ H fun hid H0 ρ ow ds=>∀ l vs H',Same H H' → H l = none → H' l = some (.lst vs) → DenL K (del H' (uni hid [l])) vs ds → Q (.ref l) H'
noncomputable def tFc (f:Rho → Option (List PyData)):TE:=fun σ H Q=>At5 K O f σ H fun hid H0 ρ ow ds=>∀ l vs H',Same H H' → H l = none → H' l = some (.lst vs) → DenL K (del H' (uni hid (l :: ow))) vs ds → Q (.ref l) H'
noncomputable def tT (f:Rho → Option Bool):TT:=fun σ H Q=>At5 K O f σ H fun hid H0 ρ ow b=>∀ H',Same H H' → Q b H'
noncomputable def tAR (f:Rho → Option (List PyData)):TA:=fun σ H Q=>At5 K O f σ H fun hid H0 ρ ow ds=>∀ vs H',Same H H' → DenL K (del H' hid) vs ds → Q vs H'
noncomputable def tAV (f:Rho → Option (List PyData)):TA:=fun σ H Q=>At5 K O f σ H fun hid H0 ρ ow ds=>∀ vs H',Same H H' → DenL K (del H' (uni hid ow)) vs ds → Q vs H'
end
noncomputable abbrev PR (X:Cx) (O:Ow) (e:Expr) (f:Rho → Option PyData):Prop:=PE X e (tR X.K O f)
noncomputable abbrev PV (X:Cx) (O:Ow) (e:Expr) (f:Rho → Option PyData):Prop:=PE X e (tV X.K O f)
noncomputable abbrev PFr (X:Cx) (O:Ow) (e:Expr) (f:Rho → Option (List PyData)):Prop:=PE X e (tFr X.K O f)
noncomputable abbrev PFc (X:Cx) (O:Ow) (e:Expr) (f:Rho → Option (List PyData)):Prop:=PE X e (tFc X.K O f)
noncomputable abbrev PTv (X:Cx) (O:Ow) (e:Expr) (f:Rho → Option Bool):Prop:=PT X e (tT X.K O f)
noncomputable abbrev PWv (X:Cx) (O:Ow) (e:Expr) (f:Rho → Option Bool):Prop:=PW X e (tT X.K O f)
noncomputable abbrev PAr (X:Cx) (O:Ow) (es:List Expr) (f:Rho → Option (List PyData)):Prop:=PA X es (tAR X.K O f)
noncomputable abbrev PAv (X:Cx) (O:Ow) (es:List Expr) (f:Rho → Option (List PyData)):Prop:=PA X es (tAV X.K O f)
theorem PE.imp {X:Cx} {e:Expr} {t t':TE} (h:PE X e t) (hi:∀ σ H Q,t' σ H Q → t σ H Q):PE X e t':=fun pins s σ H Q I q=>h pins s σ H Q I (hi σ H Q q)
theorem PT.imp {X:Cx} {e:Expr} {t t':TT} (h:PT X e t) (hi:∀ σ H Q,t' σ H Q → t σ H Q):PT X e t':=fun pins s σ H Q I q=>h pins s σ H Q I (hi σ H Q q)
theorem PW.imp {X:Cx} {e:Expr} {t t':TT} (h:PW X e t) (hi:∀ σ H Q,t' σ H Q → t σ H Q):PW X e t':=fun wh pins s σ H Q I q=>h wh pins s σ H Q I (hi σ H Q q)
theorem PA.imp {X:Cx} {es:List Expr} {t t':TA} (h:PA X es t) (hi:∀ σ H Q,t' σ H Q → t σ H Q):PA X es t':=fun pos pins s σ H Q I q=>h pos pins s σ H Q I (hi σ H Q q)
theorem PS.imp {X:Cx} {st:Stmt} {t t':TS} (h:PS X st t) (hi:∀ D σ H,t' D σ H → t D σ H):PS X st t':=fun pins s σ H D I q=>h pins s σ H D I (hi D σ H q)
theorem PSs.imp {X:Cx} {st:List Stmt} {t t':TS} (h:PSs X st t) (hi:∀ D σ H,t' D σ H → t D σ H):PSs X st t':=fun pins s σ H D I q=>h pins s σ H D I (hi D σ H q)
theorem PG.imp {X:Cx} {tg:Expr} {t t':TG} (h:PG X tg t) (hi:∀ v σ H Q,t' v σ H Q → t v σ H Q):PG X tg t':=fun pins s σ H v u Q I r q=>h pins s σ H v u Q I r (hi v σ H Q q)
theorem PGs.imp {X:Cx} {tg:List Expr} {t t':TGs} (h:PGs X tg t) (hi:∀ v σ H Q,t' v σ H Q → t v σ H Q):PGs X tg t':=fun pins s σ H v u Q I r q=>h pins s σ H v u Q I r (hi v σ H Q q)
theorem PI.imp {X:Cx} {tg iter:Expr} {t t':TI} (h:PI X tg iter t) (hi:∀ σ H R,t' σ H R → t σ H R):PI X tg iter t':=fun pins s σ H R I q=>h pins s σ H R I (hi σ H R q)
noncomputable def boolD:PyData → Option Bool
  | .bool b=>some b
  | _=>none
noncomputable def listD:PyData → Option (List PyData)
  | .list ds=>some ds
  | _=>none
noncomputable def bind2 (a b:Option PyData) (g:PyData → PyData → Option PyData):Option PyData:=a.bind fun x=>b.bind fun y=>g x y
inductive Bnd2 (a b:Option PyData) (g:PyData → PyData → Option PyData) (r:PyData):Prop
  | mk (x y:PyData) (h1:a = some x) (h2:b = some y) (h3:g x y = some r):Bnd2 a b g r
inductive Bnd {α β:Type} (a:Option α) (g:α → Option β) (r:β):Prop
  | mk (x:α) (h1:a = some x) (h2:g x = some r):Bnd a g r
inductive Mpd {α β:Type} (a:Option α) (g:α → β) (r:β):Prop
  | mk (x:α) (h1:a = some x) (h2:g x = r):Mpd a g r
theorem bind2_some {a b:Option PyData} {g:PyData → PyData → Option PyData} {r:PyData} (h:bind2 a b g = some r):Bnd2 a b g r:=by
  unfold bind2 at h
  cases a with
  | none=>exact L2.no_ns h
  | some x=>
    cases b with
    | none=>exact L2.no_ns h
    | some y=>exact ⟨x,y,rfl,rfl,h⟩
noncomputable def consD (x:Option PyData) (r:Option (List PyData)):Option (List PyData):=x.bind fun d=>r.map (d :: ·)
noncomputable def testD (x:Option PyData):Option Bool:=x.bind boolD
noncomputable def condO {α:Type} (c:Option Bool) (a b:Option α):Option α:=c.bind fun k=>if k = true then a else b
noncomputable def orB (x y:Option Bool):Option Bool:=x.bind fun c=>if c = true then some true else y
theorem bind_some {α β:Type} {a:Option α} {g:α → Option β} {r:β} (h:a.bind g = some r):Bnd a g r:=by
  cases a with
  | none=>exact L2.no_ns h
  | some x=>exact ⟨x,rfl,h⟩
theorem map_some {α β:Type} {a:Option α} {g:α → β} {r:β} (h:a.map g = some r):Mpd a g r:=by
  cases a with
  | none=>exact L2.no_ns h
  | some x=>exact ⟨x,rfl,Option.some.inj h⟩
section
variable {X:Cx} {O:Ow} {e a b c:Expr} {f fa fb fc:Rho → Option PyData} {pos:Pos}
theorem PV.r (h:PV X O e f):PR X O e f:=h.imp fun σ H Q ⟨hid,H0,ρ,ow,d,E,hf,k⟩=>⟨hid,H0,ρ,ow,d,E,hf,fun v H' s D=>k v H' s (D.mono (del_uni _ _ _))⟩
theorem PR.cl0 (h:PR X O e f) (h0:autoParam (O.s = []) L2.ar._auto_1):PV X O e f:=h.imp fun σ H Q ⟨hid,H0,ρ,ow,d,E,hf,k⟩=>⟨hid,H0,ρ,ow,d,E,hf,fun v H' s D=>k v H' s (by rw [E.emp h0,uni_nil]; exact D)⟩
theorem PR.clf (h:PR X O e f):PV X O e (fun ρ=>(f ρ).filter lf):=h.imp fun σ H Q zpat=>by
  obtain ⟨hid,H0,ρ,ow,d,E,hf,k⟩:=zpat
  refine L2.o_A (Option.filter_eq_some_iff.mp hf) fun h1 h2=>?_
  exact ⟨hid,H0,ρ,ow,d,E,h1,fun v H' s D=>k v H' s (D.clean (E.mono s).lists h2)⟩
theorem PFr.r {f:Rho → Option (List PyData)} (h:PFr X O e f):PR X O e (fun ρ=>(f ρ).map .list):=h.imp fun σ H Q zpat=>by
  obtain ⟨hid,H0,ρ,ow,d,E,hf,k⟩:=zpat
  obtain ⟨ds,h1,rfl⟩:=map_some hf
  exact ⟨hid,H0,ρ,ow,ds,E,h1,fun l vs H' s n q D=>k (.ref l) H' s (.lst (SqL.of (by rw [del_out fun z=>E.fresh n (.inl z)]; exact q)) (D.mono (del_uni _ _ _)))⟩
theorem PFc.fr {f:Rho → Option (List PyData)} (h:PFc X O e f):PFr X O e f:=h.imp fun σ H Q ⟨hid,H0,ρ,ow,d,E,hf,k⟩=>⟨hid,H0,ρ,ow,d,E,hf,fun l vs H' s n q D=>k l vs H' s n q (D.mono (del_sub fun b z=>by rcases z with z | z; exact .inl z; exact .inr (by simp at z; simp [z])))⟩
theorem PFc.v {f:Rho → Option (List PyData)} (h:PFc X O e f):PV X O e (fun ρ=>(f ρ).map .list):=h.imp fun σ H Q zpat=>by
  obtain ⟨hid,H0,ρ,ow,d,E,hf,k⟩:=zpat
  obtain ⟨ds,h1,rfl⟩:=map_some hf
  refine ⟨hid,H0,ρ,ow,ds,E,h1,fun l vs H' s n q D=>k (.ref l) H' s (.lst (SqL.of ?_) (D.mono (del_sub fun b z=>by rcases z with z | z; exact .inl z; exact .inr (List.mem_cons_of_mem _ z))))⟩
  rw [del_out (E.fresh n)]
  exact q
theorem PFr.cf {f:Rho → Option (List PyData)} (h:PFr X O e f):PFc X O e (fun ρ=>(f ρ).filter lf.go):=h.imp fun σ H Q zpat=>by
  obtain ⟨hid,H0,ρ,ow,d,E,hf,k⟩:=zpat
  refine L2.o_A (Option.filter_eq_some_iff.mp hf) fun h1 h2=>?_
  refine ⟨hid,H0,ρ,ow,d,E,h1,fun l vs H' s n q D=>k l vs H' s n q ((D.mono (del_uni _ _ _)).clean (fun l2 h2=>?_) h2)⟩
  rcases List.mem_cons.mp h2 with rfl | h2
  · exact ⟨.l vs,q⟩
  · exact (E.mono s).lists l2 h2
theorem join_some {ρ:Rho} {i:Nat} {d:PyData} (h:(ρ[i]?).join = some d):ρ[i]? = some (some d):=by
  cases q:ρ[i]? with
  | none=>rw [q] at h; cases h
  | some x=>rw [q] at h; exact congrArg some h
theorem pr_name {i:Nat} (h:PE X e (tVar i)):PR X O e (fun ρ=>(ρ[i]?).join):=h.imp fun σ H Q zpat=>by
  obtain ⟨hid,H0,ρ,ow,d,E,hf,k⟩:=zpat
  refine L2.o_EA (E.raw (join_some hf)) fun v h1 h2=>?_
  exact ⟨v,h1,k v H (Same.refl H) h2⟩
theorem pv_name {i:Nat} (h:PE X e (tVar i)) (hi:autoParam (O.s.lookup i = none) L2.ar._auto_1):PV X O e (fun ρ=>(ρ[i]?).join):=h.imp fun σ H Q zpat=>by
  obtain ⟨hid,H0,ρ,ow,d,E,hf,k⟩:=zpat
  refine L2.o_EA (E.val i d hi (join_some hf)) fun v h1 h2=>?_
  exact ⟨v,h1,k v H (Same.refl H) h2⟩
theorem pv_c {v:V} {d:PyData} (h:PE X e (tC v)) (s:Sc v d):PV X O e (fun _=>some d):=h.imp fun σ H Q zpat=>by
  obtain ⟨hid,H0,ρ,ow,d',E,hf,k⟩:=zpat
  obtain rfl:=Option.some.inj hf
  exact k v H (Same.refl H) s.den
theorem pv_int {i:Int} {j:Nat}:PV X O (.Constant (.int i) j pos) (fun _=>some (.int i)):=pv_c pe_int (.int i)
theorem pv_bl {i:Bool} {j:Nat}:PV X O (.Constant (.bool i) j pos) (fun _=>some (.bool i)):=pv_c pe_bl (.bl i)
theorem pv_non {j:Nat}:PV X O (.Constant .none j pos) (fun _=>some .none):=pv_c pe_non .non
noncomputable def SpecOp (K:PySem.W.Frag) (rd:R2) (g:PyData → PyData → Option PyData):Prop:=∀ x y H d e r Q,Den K H x d → Den K H y e → g d e = some r → (∀ v,Sc v r → Q v H) → rd x y H Q
noncomputable def SpecOpR (K:PySem.W.Frag) (rd:R2) (g:PyData → PyData → Option PyData):Prop:=∀ x y H G d e r Q,Same G H → Den K G x d → Den K G y e → g d e = some r → (∀ v,Den K G v r → Q v H) → rd x y H Q
theorem tOp_imp {K:PySem.W.Frag} {rd:R2} {g:PyData → PyData → Option PyData} (hg:SpecOp K rd g):∀ σ H Q,tV K O (fun ρ=>bind2 (fa ρ) (fb ρ) g) σ H Q → tOp rd (tR K O fa) (tR K O fb) σ H Q:=fun σ H Q zpat=>by
  obtain ⟨hid,H0,ρ,ow,r,E,hf,k⟩:=zpat
  obtain ⟨d,e,h1,h2,h3⟩:=bind2_some hf
  exact ⟨hid,H0,ρ,ow,d,E,h1,fun x H1 s1 D1=>⟨hid,H0,ρ,ow,e,E.mono s1,h2,fun y H2 s2 D2=>hg x y H2 d e r Q ((D1.mono (del_mono s2 _)).mono (del_same _ _)) (D2.mono (del_same _ _)) h3 fun v S=>k v H2 (s1.trans s2) S.den⟩⟩
theorem tOp_impR {K:PySem.W.Frag} {rd:R2} {g:PyData → PyData → Option PyData} (hg:SpecOpR K rd g):∀ σ H Q,tR K O (fun ρ=>bind2 (fa ρ) (fb ρ) g) σ H Q → tOp rd (tR K O fa) (tR K O fb) σ H Q:=fun σ H Q zpat=>by
  obtain ⟨hid,H0,ρ,ow,r,E,hf,k⟩:=zpat
  obtain ⟨d,e,h1,h2,h3⟩:=bind2_some hf
  exact ⟨hid,H0,ρ,ow,d,E,h1,fun x H1 s1 D1=>⟨hid,H0,ρ,ow,e,E.mono s1,h2,fun y H2 s2 D2=>hg x y H2 _ d e r Q (del_same _ hid) (D1.mono (del_mono s2 _)) D2 h3 fun v S=>k v H2 (s1.trans s2) S⟩⟩
noncomputable def intO:PyData → Option Int
  | .int i=>some i
  | _=>none
theorem intO_some {d:PyData} {i:Int} (h:intO d = some i):d = .int i:=by
  cases d with
  | int j=>rw [Option.some.inj h]
  | _=>exact L2.no_ns h
noncomputable def seqD:PyData → Option (List PyData)
  | .list ds=>some ds
  | .tuple ds=>some ds
  | _=>none
theorem seqD_some {d:PyData} {ds:List PyData} (h:seqD d = some ds):d = .list ds ∨ d = .tuple ds:=by
  cases d with
  | list es=>exact .inl (by rw [Option.some.inj h])
  | tuple es=>exact .inr (by rw [Option.some.inj h])
  | _=>exact L2.no_ns h
noncomputable def int2 (h:Int → Int → PyData) (d e:PyData):Option PyData:=(intO d).bind fun i=>(intO e).map fun j=>h i j
noncomputable def int2C (c:Int → Int → Bool) (h:Int → Int → PyData) (d e:PyData):Option PyData:=(intO d).bind fun i=>(intO e).bind fun j=>if c i j = true then some (h i j) else none
theorem int2_some {h:Int → Int → PyData} {d e r:PyData} (q:int2 h d e = some r):∃ i j,d = .int i ∧ e = .int j ∧ r = h i j:=by
  obtain ⟨i,h1,q⟩:=bind_some q
  obtain ⟨j,h2,q⟩:=map_some q
  exact L2.i_EEAA (i) (j) (intO_some h1) (intO_some h2) (q.symm)
theorem int2C_some {c:Int → Int → Bool} {h:Int → Int → PyData} {d e r:PyData} (q:int2C c h d e = some r):∃ i j,d = .int i ∧ e = .int j ∧ c i j = true ∧ r = h i j:=by
  obtain ⟨i,h1,q⟩:=bind_some q
  obtain ⟨j,h2,q⟩:=bind_some q
  by_cases hc:c i j = true
  · rw [if_pos hc] at q
    exact L2.i_EEAAA (i) (j) (intO_some h1) (intO_some h2) (hc) ((Option.some.inj q).symm)
  · rw [if_neg hc] at q; exact L2.no_ns q
noncomputable def one:List PyData → Option PyData
  | [d]=>some d
  | _=>none
theorem one_some {ds:List PyData} {d:PyData} (h:one ds = some d):ds = [d]:=by
  cases ds with
  | nil=>exact L2.no_ns h
  | cons a r=>
    cases r with
    | nil=>rw [Option.some.inj h]
    | cons b r=>exact L2.no_ns h
noncomputable def two:List PyData → Option (PyData × PyData)
  | [d,e]=>some (d,e)
  | _=>none
theorem two_some {ds:List PyData} {p:PyData × PyData} (h:two ds = some p):ds = [p.1,p.2]:=by
  cases ds with
  | nil=>exact L2.no_ns h
  | cons a r=>
    cases r with
    | nil=>exact L2.no_ns h
    | cons b r=>
      cases r with
      | nil=>rw [← Option.some.inj h]
      | cons c r=>exact L2.no_ns h
theorem spI0 {K:PySem.W.Frag} {g:Int → Int → V} {h:Int → Int → PyData} (hs:∀ i j,Sc (g i j) (h i j)):SpecOp K (rI0 g) (int2 h):=fun x y H d e r Q D1 D2 q k=>by
  refine L2.o_EEAA (int2_some q) fun i j zq2 zq3 zq4=>?_
  subst zq2
  subst zq3
  subst zq4
  exact L2.i_EEAA (i) (j) (den_int D1) (den_int D2) (k _ (hs i j))
theorem spI {K:PySem.W.Frag} {C:Int → Int → Prop} {c:Int → Int → Bool} {g:Int → Int → V} {h:Int → Int → PyData} (hs:∀ i j,Sc (g i j) (h i j)) (hc:∀ i j,c i j = true → C i j):SpecOp K (rI C g) (int2C c h):=fun x y H d e r Q D1 D2 q k=>by
  refine L2.o_EEAAA (int2C_some q) fun i j zq2 zq3 hcc zq5=>?_
  subst zq2
  subst zq3
  subst zq5
  exact L2.i_EEAAA (i) (j) (den_int D1) (den_int D2) (hc i j hcc) (k _ (hs i j))
noncomputable def isBig (i:Int):Bool:=decide (i.natAbs < big)
noncomputable def addD:=int2 fun i j=>.int (i + j)
noncomputable def subD:=int2 fun i j=>.int (i - j)
noncomputable def isS (i:Int):Bool:=decide (i.natAbs < 2 ^ 63)
noncomputable def mulD:=int2C (fun i j=>(isBig i && isBig j) || (isS i || isS j)) fun i j=>.int (i * j)
noncomputable def fdivD:=int2C (fun _ j=>decide (j ≠ 0) && isBig j) fun i j=>.int (i.fdiv j)
noncomputable def modD:=int2C (fun _ j=>decide (j ≠ 0)) fun i j=>.int (i.fmod j)
noncomputable def powD:=int2C (fun i j=>decide (0 ≤ j) && decide (j ≤ 1000000) && decide (i.natAbs < 2 ^ 64)) fun i j=>.int (i ^ j.toNat)
noncomputable def ltD:=int2 fun i j=>.bool (decide (i < j))
noncomputable def gtD:=int2 fun i j=>.bool (decide (j < i))
noncomputable def geD:=int2 fun i j=>.bool (decide (j ≤ i))
noncomputable def eqD (d e:PyData):Option PyData:=if (SeqAt.shaped d && SeqAt.shaped e) = true then some (.bool (PyData.eqv d e)) else none
noncomputable def neD (d e:PyData):Option PyData:=if (SeqAt.shaped d && SeqAt.shaped e) = true then some (.bool (!PyData.eqv d e)) else none
theorem sp_eq {K:PySem.W.Frag}:SpecOp K (rEqD K) eqD:=fun x y H d e r Q D1 D2 q k=>by
  unfold eqD at q
  split at q
  · rename_i h
    rw [Bool.and_eq_true] at h
    obtain rfl:=Option.some.inj q
    exact L2.i_EEAAAA (d) (e) (D1) (D2) (h.1) (h.2) (k _ (.bl _))
  · exact L2.no_ns q
theorem sp_ne {K:PySem.W.Frag}:SpecOp K (rNeD K) neD:=fun x y H d e r Q D1 D2 q k=>by
  unfold neD at q
  split at q
  · rename_i h
    rw [Bool.and_eq_true] at h
    obtain rfl:=Option.some.inj q
    exact L2.i_EEAAAA (d) (e) (D1) (D2) (h.1) (h.2) (k _ (.bl _))
  · exact L2.no_ns q
theorem v_add (ha:PR X O a fa) (hb:PR X O b fb):PV X O (.BinOp a .Add b pos) (fun ρ=>bind2 (fa ρ) (fb ρ) addD):=(pe_op op_add ha hb).imp (tOp_imp (spI0 fun _ _=>.int _))
theorem v_sub (ha:PR X O a fa) (hb:PR X O b fb):PV X O (.BinOp a .Sub b pos) (fun ρ=>bind2 (fa ρ) (fb ρ) subD):=(pe_op op_sub ha hb).imp (tOp_imp (spI0 fun _ _=>.int _))
theorem v_mul (ha:PR X O a fa) (hb:PR X O b fb):PV X O (.BinOp a .Mult b pos) (fun ρ=>bind2 (fa ρ) (fb ρ) mulD):=(pe_op op_mulB ha hb).imp (tOp_imp (spI (fun _ _=>.int _) fun i j h=>by
  rw [Bool.or_eq_true,Bool.or_eq_true,Bool.and_eq_true] at h
  rcases h with h | h | h
  · exact .inl ⟨of_decide_eq_true h.1,of_decide_eq_true h.2⟩
  · have:=of_decide_eq_true h
    exact .inr (.inl (by omega))
  · have:=of_decide_eq_true h
    exact .inr (.inr (by omega))))
theorem v_fdiv (ha:PR X O a fa) (hb:PR X O b fb):PV X O (.BinOp a .FloorDiv b pos) (fun ρ=>bind2 (fa ρ) (fb ρ) fdivD):=(pe_op op_fdivB ha hb).imp (tOp_imp (spI (fun _ _=>.int _) fun i j h=>by
  rw [Bool.and_eq_true] at h; exact ⟨of_decide_eq_true h.1,of_decide_eq_true h.2⟩))
theorem v_mod (ha:PR X O a fa) (hb:PR X O b fb):PV X O (.BinOp a .Mod b pos) (fun ρ=>bind2 (fa ρ) (fb ρ) modD):=(pe_op op_modN ha hb).imp (tOp_imp (spI (fun _ _=>.int _) fun i j h=>of_decide_eq_true h))
theorem v_pow (ha:PR X O a fa) (hb:PR X O b fb):PV X O (.BinOp a .Pow b pos) (fun ρ=>bind2 (fa ρ) (fb ρ) powD):=(pe_op op_pow ha hb).imp (tOp_imp (spI (fun _ _=>.int _) fun i j h=>by
  rw [Bool.and_eq_true,Bool.and_eq_true] at h; exact ⟨of_decide_eq_true h.1.1,of_decide_eq_true h.1.2,of_decide_eq_true h.2⟩))
structure CmpD (X:Cx) (op:CmpOp) (g:PyData → PyData → Option PyData):Prop where
  ex:∃ rd,OpR X (compareOp op) rd ∧ SpecOp X.K rd g
theorem c_lt:CmpD X .Lt ltD:=⟨_,op_lt,spI0 fun _ _=>.bl _⟩
theorem c_gt:CmpD X .Gt gtD:=⟨_,op_gt,spI0 fun _ _=>.bl _⟩
theorem c_ge:CmpD X .GtE geD:=⟨_,op_ge,spI0 fun _ _=>.bl _⟩
theorem c_eq (hu:X.A.units + 64 < cLine):CmpD X .Eq eqD:=⟨_,op_eqD hu,sp_eq⟩
theorem c_ne (hu:X.A.units + 64 < cLine):CmpD X .NotEq neD:=⟨_,op_neD hu,sp_ne⟩
theorem v_cmp {op:CmpOp} {g:PyData → PyData → Option PyData} (C:CmpD X op g) (ha:PR X O a fa) (hb:PR X O b fb) (h1:autoParam (op ≠ .In) L2.ad._auto_1) (h2:autoParam (op ≠ .NotIn) L2.ad._auto_1):PV X O (.Compare a [op] [b] pos) (fun ρ=>bind2 (fa ρ) (fb ρ) g):=by
  refine L2.o_EA (C.ex) fun rd ho hs=>?_
  exact (pe_cmpR ho ha hb (nomark b h1 h2)).imp (tOp_imp hs)
theorem boolD_some {d:PyData} {b:Bool} (h:boolD d = some b):d = .bool b:=by
  unfold boolD at h
  split at h
  · cases h; rfl
  · exact L2.no_ns h
theorem t_cmp {op:CmpOp} {g:PyData → PyData → Option PyData} (C:CmpD X op g) (ha:PR X O a fa) (hb:PR X O b fb) (h1:autoParam (op ≠ .In) L2.ad._auto_1) (h2:autoParam (op ≠ .NotIn) L2.ad._auto_1):PTv X O (.Compare a [op] [b] pos) (fun ρ=>testD (bind2 (fa ρ) (fb ρ) g)):=by
  refine L2.o_EA (C.ex) fun rd ho hs=>?_
  refine (pt_cmpR ho ha hb (nomark b h1 h2)).imp fun σ H Q zpat=>?_
  obtain ⟨hid,H0,ρ,ow,k,E,hf,q⟩:=zpat
  obtain ⟨d,h3,h4⟩:=bind_some hf
  refine tOp_imp hs σ H _ ⟨hid,H0,ρ,ow,d,E,h3,fun v H' s D=>?_⟩
  rw [boolD_some h4] at D
  exact ⟨k,den_bl D,q H' s⟩
theorem t_val (h:PR X O e f) (he:∀ whole,isTrue e X.env whole = (do let v ← whole; standAt e.pos; holding [v] (truthy v)):=by intro _; rfl):PTv X O e (fun ρ=>testD (f ρ)):=
  (pt_val h he).imp fun σ H Q zpat=>by
    obtain ⟨hid,H0,ρ,ow,k,E,hf,q⟩:=zpat
    obtain ⟨d,h3,h4⟩:=bind_some hf
    refine ⟨hid,H0,ρ,ow,d,E,h3,fun v H' s D=>?_⟩
    rw [boolD_some h4] at D
    exact ⟨k,den_bl D,q H' s⟩
variable {ga gb:Rho → Option Bool} {rest:List Expr}
theorem w_or1 (ha:PTv X O a ga):PWv X O (.BoolOp .Or [a] pos) ga:=pw_or1 ha
theorem w_or (ha:PTv X O a ga) (hb:PWv X O (.BoolOp .Or (b :: rest) pos) gb):PWv X O (.BoolOp .Or (a :: b :: rest) pos) (fun ρ=>orB (ga ρ) (gb ρ)):=
  (pw_or ha hb).imp fun σ H Q zpat=>by
    obtain ⟨hid,H0,ρ,ow,k,E,hf,q⟩:=zpat
    obtain ⟨c,h1,h2⟩:=bind_some hf
    refine ⟨hid,H0,ρ,ow,c,E,h1,fun H1 s1=>?_⟩
    cases c with
    | true=>rw [if_pos rfl] at h2 ⊢; cases h2; exact q H1 s1
    | false=>rw [if_neg Bool.false_ne_true] at h2 ⊢; exact ⟨hid,H0,ρ,ow,k,E.mono s1,h2,fun H2 s2=>q H2 (s1.trans s2)⟩
theorem t_w (h:PWv X O e ga):PTv X O e ga:=h.pt
noncomputable def negD:PyData → Option PyData
  | .int i=>some (.int (-i))
  | _=>none
theorem v_neg (ha:PR X O a fa):PV X O (.UnaryOp .USub a pos) (fun ρ=>(fa ρ).bind negD):=(pe_un un_neg ha).imp fun σ H Q zpat=>by
  obtain ⟨hid,H0,ρ,ow,k,E,hf,q⟩:=zpat
  obtain ⟨d,h1,h2⟩:=bind_some hf
  unfold negD at h2
  split at h2
  · obtain rfl:=Option.some.inj h2
    exact ⟨hid,H0,ρ,ow,_,E,h1,fun v H1 s1 D=>⟨_,den_int D,q _ H1 s1 (.int _)⟩⟩
  · exact L2.no_ns h2
noncomputable def ixD (d e:PyData):Option PyData:=(seqD d).bind fun ds=>(intO e).bind fun i=>atI ds i
theorem sp_ix {K:PySem.W.Frag}:SpecOpR K (fun x y H Q=>rIxL K x y H Q ∨ rIxT K x y H Q) ixD:=fun x y H G d e r Q s D1 D2 q k=>by
  obtain ⟨ds,h1,q⟩:=bind_some q
  obtain ⟨i,h2,q⟩:=bind_some q
  obtain rfl:=intO_some h2
  rcases seqD_some h1 with rfl | rfl
  · obtain ⟨p,vs,rfl,h1,h2⟩:=den_lst D1
    refine L2.o_EA (h2.atI q) fun v h3 h4=>?_
    exact .inl ⟨p,vs,_,v,rfl,den_int D2,s.seq h1,h3,k v h4⟩
  · obtain ⟨p,vs,rfl,h1,h2⟩:=den_tup D1
    refine L2.o_EA (h2.atI q) fun v h3 h4=>?_
    exact .inr ⟨p,vs,_,v,rfl,den_int D2,s.tup h1,h3,k v h4⟩
theorem r_ix (ha:PR X O a fa) (hb:PR X O b fb) (hs:PlainIx b:=by intro _ _; rfl):PR X O (.Subscript a b pos) (fun ρ=>bind2 (fa ρ) (fb ρ) ixD):=(pe_ix (ix_list.or ix_tup) ha hb hs).imp (tOp_impR sp_ix)
variable {es:List Expr} {fs:Rho → Option (List PyData)}
theorem a_nil:PAr X O [] (fun _=>some []):=pa_nil.imp fun σ H Q ⟨hid,H0,ρ,ow,ds,E,hf,k⟩=>by cases hf; exact k [] H (Same.refl H) .nil
theorem a_cons (ha:PR X O a fa) (hr:PAr X O es fs) (hs:autoParam (starEach (a :: es) X.env = (false,eval a X.env) :: starEach es X.env) L2.ar._auto_1):PAr X O (a :: es) (fun ρ=>consD (fa ρ) (fs ρ)):=
  (pa_cons ha hr hs).imp fun σ H Q zpat=>by
    obtain ⟨hid,H0,ρ,ow,ds,E,hf,k⟩:=zpat
    obtain ⟨d,h1,hf⟩:=bind_some hf
    obtain ⟨r,h2,rfl⟩:=map_some hf
    exact ⟨hid,H0,ρ,ow,d,E,h1,fun x H1 s1 D1=>⟨hid,H0,ρ,ow,r,E.mono s1,h2,fun xs H2 s2 D2=>k (x :: xs) H2 (s1.trans s2) (.cons (D1.mono (del_mono s2 _)) D2)⟩⟩
theorem ac_nil:PAv X O [] (fun _=>some []):=pa_nil.imp fun σ H Q ⟨hid,H0,ρ,ow,ds,E,hf,k⟩=>by cases hf; exact k [] H (Same.refl H) .nil
theorem ac_cons (ha:PV X O a fa) (hr:PAv X O es fs) (hs:autoParam (starEach (a :: es) X.env = (false,eval a X.env) :: starEach es X.env) L2.ar._auto_1):PAv X O (a :: es) (fun ρ=>consD (fa ρ) (fs ρ)):=
  (pa_cons ha hr hs).imp fun σ H Q zpat=>by
    obtain ⟨hid,H0,ρ,ow,ds,E,hf,k⟩:=zpat
    obtain ⟨d,h1,hf⟩:=bind_some hf
    obtain ⟨r,h2,rfl⟩:=map_some hf
    exact ⟨hid,H0,ρ,ow,d,E,h1,fun x H1 s1 D1=>⟨hid,H0,ρ,ow,r,E.mono s1,h2,fun xs H2 s2 D2=>k (x :: xs) H2 (s1.trans s2) (.cons (D1.mono (del_mono s2 _)) D2)⟩⟩
theorem len_line {n:Nat} (h:decide (n ≤ 1000) = true):n ≤ sizeLine:=Nat.le_trans (of_decide_eq_true h) (by decide)
noncomputable def shortD (f:List PyData → PyData) (o:Option (List PyData)):Option PyData:=o.bind fun ds=>if decide (ds.length ≤ 1000) = true then some (f ds) else none
theorem shortD_some {f:List PyData → PyData} {o:Option (List PyData)} {r:PyData} (h:shortD f o = some r):∃ ds,o = some ds ∧ ds.length ≤ sizeLine ∧ r = f ds:=by
  obtain ⟨ds,h1,h2⟩:=bind_some h
  split at h2
  · rename_i hc
    exact ⟨ds,h1,len_line hc,(Option.some.inj h2).symm⟩
  · exact L2.no_ns h2
theorem v_tup {x1} (h:PAv X O es fs):PV X O (.Tuple es x1 pos) (fun ρ=>shortD .tuple (fs ρ)):=(pe_tup h).imp fun σ H Q zpat=>by
  obtain ⟨hid,H0,ρ,ow,r,E,hf,k⟩:=zpat
  refine L2.o_EAA (shortD_some hf) fun ds h1 h2 zq3=>?_
  subst zq3
  refine ⟨hid,H0,ρ,ow,ds,E,h1,fun vs H1 s1 D1=>⟨by rw [D1.length]; exact h2,fun p hp=>?_⟩⟩
  refine k _ _ (s1.trans (same_new hp)) (.tup (SqT.of ((E.mono s1).newAt hp)) (D1.mono (del_mono (same_new hp) _)))
noncomputable def shortL (o:Option (List PyData)):Option (List PyData):=o.bind fun ds=>if decide (ds.length ≤ 1000) = true then some ds else none
theorem shortL_some {o:Option (List PyData)} {r:List PyData} (h:shortL o = some r):o = some r ∧ r.length ≤ sizeLine:=by
  obtain ⟨ds,h1,h2⟩:=bind_some h
  split at h2
  · rename_i hc
    obtain rfl:=Option.some.inj h2
    exact ⟨h1,len_line hc⟩
  · exact L2.no_ns h2
theorem fc_lst (h:PAv X O es fs):PFc X O (.List es pos) (fun ρ=>shortL (fs ρ)):=(pe_lst h).imp fun σ H Q zpat=>by
  obtain ⟨hid,H0,ρ,ow,r,E,hf,k⟩:=zpat
  refine L2.o_A (shortL_some hf) fun h1 h2=>?_
  refine ⟨hid,H0,ρ,ow,r,E,h1,fun vs H1 s1 D1=>⟨by rw [D1.length]; exact h2,fun p hp=>?_⟩⟩
  exact k _ vs _ (s1.trans (same_new hp)) (s1.free hp) upd_same (D1.mono (del_new (same_new hp) hp fun b z=>by rcases z with z | z; exact .inl (.inl z); rcases List.mem_cons.mp z with z | z; exact .inr z; exact .inl (.inr z)))
theorem fr_lst (h:PAr X O es fs):PFr X O (.List es pos) (fun ρ=>shortL (fs ρ)):=(pe_lst h).imp fun σ H Q zpat=>by
  obtain ⟨hid,H0,ρ,ow,r,E,hf,k⟩:=zpat
  refine L2.o_A (shortL_some hf) fun h1 h2=>?_
  refine ⟨hid,H0,ρ,ow,r,E,h1,fun vs H1 s1 D1=>⟨by rw [D1.length]; exact h2,fun p hp=>?_⟩⟩
  exact k _ vs _ (s1.trans (same_new hp)) (s1.free hp) upd_same (D1.mono (del_new (same_new hp) hp fun b z=>by rcases z with z | z; exact .inl z; exact .inr (by simpa using z)))
theorem listD_some {d:PyData} {ds:List PyData} (h:listD d = some ds):d = .list ds:=by
  cases d with
  | list es=>rw [Option.some.inj h]
  | _=>exact L2.no_ns h
noncomputable def spR (K:PySem.W.Frag) (T:Ty) (F:List PyData → Option PyData):Sp:=fun vs H Q _=>∃ (hid:Addr → Prop) (ds:List PyData) (r:PyData),(∀ b,hid b → ∃ vs:OwO,H b = some vs.ho) ∧ DenL K (del H hid) vs ds ∧ F ds = some r ∧ ∀ v as H',Same H H' → (∀ p ∈ as,H p = none) → DenO K H' (del H' (uni hid as)) T v r as → Q v H'
noncomputable def tFt (K:PySem.W.Frag) (O:Ow) (T:Ty) (f:Rho → Option PyData):TE:=fun σ H Q=>At5 K O f σ H fun hid H0 ρ ow d=>∀ v as H',Same H H' → (∀ p ∈ as,H p = none) → DenO K H' (del H' (uni hid (as ++ ow))) T v d as → Q v H'
noncomputable abbrev PFt (X:Cx) (O:Ow) (T:Ty) (e:Expr) (f:Rho → Option PyData):Prop:=PE X e (tFt X.K O T f)
theorem uni_mono {hid:Addr → Prop} {as bs:List Addr} (h:∀ p ∈ as,p ∈ bs) (b:Addr) (z:uni hid as b):uni hid bs b:=by
  rcases z with z | z
  · exact .inl z
  · exact .inr (h b z)
theorem PFc.ft {f:Rho → Option (List PyData)} (h:PFc X O e f):PFt X O (.lst .cl) e (fun ρ=>(f ρ).map .list):=h.imp fun σ H Q zpat=>by
  obtain ⟨hid,H0,ρ,ow,d,E,hf,k⟩:=zpat
  obtain ⟨ds,h1,rfl⟩:=map_some hf
  refine ⟨hid,H0,ρ,ow,ds,E,h1,fun l vs H' s n q D=>k (.ref l) [l] H' s (fun p hp=>by rw [List.mem_singleton.mp hp]; exact n) (.lst q D.os (by simp))⟩
theorem PV.ft (h:PV X O e f):PFt X O .cl e f:=h.imp fun σ H Q ⟨hid,H0,ρ,ow,d,E,hf,k⟩=>⟨hid,H0,ρ,ow,d,E,hf,fun v H' s D=>k v [] H' s (fun p hp=>by cases hp) (.cl D)⟩
theorem r_call {k:Nat} {g:Addr} {fd:FuncData} {ps:List Str} {x:Str} {p:Pos} {T:Ty} {F:List PyData → Option PyData} (G:FnOk X.prog X.w X.K X.mg X.base CX0 k g fd ps (spR X.K T F)) (hr:Room k X.A) (hg:Gl X x) (hm:X.mg x = some (.ref g)) (hk:PySem.W.keepIn X.K (.ref g) = true) (hb:Binds X.K fd ps [])
    (ha:PAr X O (a :: es) fs) (hdb:autoParam ((x == ("__debug__":Str)) = false) L2.ad._auto_1) (he:autoParam (starEach (a :: es) X.env = (false,eval a X.env) :: starEach es X.env) L2.ar._auto_1) (hpl:autoParam ((backTo pos (starEach es X.env)).any (·.1) = false) L2.ar._auto_1) :
    PR X O (.Call (.Name x p) (a :: es) [] pos) (fun ρ=>(fs ρ).bind F):=
  (pe_call G hr hg hm hk hb .nil pass0 ha hdb he hpl).imp fun σ H Q zpat=>by
    obtain ⟨hid,H0,ρ,ow,r,E,hf,q⟩:=zpat
    obtain ⟨ds,h1,h2⟩:=bind_some hf
    refine ⟨hid,H0,ρ,ow,ds,E,h1,fun vs H1 s1 D1=>⟨hid,ds,r,(E.mono s1).ishL,by rw [List.append_nil]; exact D1,h2,fun v as H2 s2 n2 D2=>q v H2 (s1.trans s2) ?_⟩⟩
    exact D2.raw (del_uni _ _ _) fun p hp o e=>by rw [del_out fun z=>(E.mono s1).ish p z (n2 p hp)]; exact e
theorem ft_call {k:Nat} {g:Addr} {fd:FuncData} {ps:List Str} {x:Str} {p:Pos} {T:Ty} {F:List PyData → Option PyData} (G:FnOk X.prog X.w X.K X.mg X.base CX0 k g fd ps (spR X.K T F)) (hr:Room k X.A) (hg:Gl X x) (hm:X.mg x = some (.ref g)) (hk:PySem.W.keepIn X.K (.ref g) = true) (hb:Binds X.K fd ps [])
    (ha:PAv X O (a :: es) fs) (hdb:autoParam ((x == ("__debug__":Str)) = false) L2.ad._auto_1) (he:autoParam (starEach (a :: es) X.env = (false,eval a X.env) :: starEach es X.env) L2.ar._auto_1) (hpl:autoParam ((backTo pos (starEach es X.env)).any (·.1) = false) L2.ar._auto_1) :
    PFt X O T (.Call (.Name x p) (a :: es) [] pos) (fun ρ=>(fs ρ).bind F):=
  (pe_call G hr hg hm hk hb .nil pass0 ha hdb he hpl).imp fun σ H Q zpat=>by
    obtain ⟨hid,H0,ρ,ow,r,E,hf,q⟩:=zpat
    obtain ⟨ds,h1,h2⟩:=bind_some hf
    refine ⟨hid,H0,ρ,ow,ds,E,h1,fun vs H1 s1 D1=>⟨uni hid ow,ds,r,(E.mono s1).uniL,by rw [List.append_nil]; exact D1,h2,fun v as H2 s2 n2 D2=>q v as H2 (s1.trans s2) (fun p hp=>s1.free (n2 p hp)) ?_⟩⟩
    refine D2.mono (del_sub fun b z=>?_) fun p _ o e=>e
    rcases z with z | z
    · exact .inl (.inl z)
    · rcases List.mem_append.mp z with z | z
      · exact .inr z
      · exact .inl (.inr z)
noncomputable def tRt (K:PySem.W.Frag) (O:Ow) (U:List Nat) (T:Ty) (f:Rho → Option PyData):TE:=fun σ H Q=>∃ hid H0 ρ ow d A,EnvOk K O hid H0 σ H ρ ow ∧ OwnA K O hid σ H ρ ow A ∧ f ρ = some d ∧ ∀ v as H',Same H H' → (∀ p ∈ as,H p = none ∨ ∃ i ∈ U,p ∈ A i) → DenO K H' (del H' (uni hid (as ++ ow))) T v d as → Q v H'
noncomputable def tRa (K:PySem.W.Frag) (O:Ow) (U:List Nat) (Ts:List Ty) (f:Rho → Option (List PyData)):TA:=fun σ H Q=>∃ hid H0 ρ ow ds A,EnvOk K O hid H0 σ H ρ ow ∧ OwnA K O hid σ H ρ ow A ∧ f ρ = some ds ∧ ∀ vs as H',Same H H' → (∀ p ∈ as,H p = none ∨ ∃ i ∈ U,p ∈ A i) → DenOp K H' (del H' (uni hid (as ++ ow))) Ts vs ds as → Q vs H'
noncomputable abbrev PRt (X:Cx) (O:Ow) (U:List Nat) (T:Ty) (e:Expr) (f:Rho → Option PyData):Prop:=PE X e (tRt X.K O U T f)
noncomputable abbrev PRa (X:Cx) (O:Ow) (U:List Nat) (Ts:List Ty) (es:List Expr) (f:Rho → Option (List PyData)):Prop:=PA X es (tRa X.K O U Ts f)
variable {T:Ty} {Ts:List Ty} {U U':List Nat}
theorem PFt.rt (h:PFt X O T e f):PRt X O [] T e f:=h.imp fun σ H Q zpat=>by
  refine L2.o_EEEEEEAAA (zpat) fun hid H0 ρ ow d A E EA hf k=>?_
  exact ⟨hid,H0,ρ,ow,d,E,hf,fun v as H' s n D=>k v as H' s (fun p hp=>.inl (n p hp)) D⟩
theorem ra_nil:PRa X O [] [] [] (fun _=>some []):=pa_nil.imp fun σ H Q ⟨hid,H0,ρ,ow,ds,A,E,EA,hf,k⟩=>by cases hf; exact k [] [] H (Same.refl H) (fun p hp=>by cases hp) .nil
theorem ra_cons (ha:PRt X O U T a fa) (hr:PRa X O U' Ts es fs) (hu:autoParam (∀ i ∈ U,i ∉ U') L2.ad._auto_1) (hs:autoParam (starEach (a :: es) X.env = (false,eval a X.env) :: starEach es X.env) L2.ar._auto_1):PRa X O (U ++ U') (T :: Ts) (a :: es) (fun ρ=>consD (fa ρ) (fs ρ)):=
  (pa_cons ha hr hs).imp fun σ H Q zpat=>by
    refine L2.o_EEEEEEAAA (zpat) fun hid H0 ρ ow ds A E EA hf k=>?_
    obtain ⟨d,h1,hf⟩:=bind_some hf
    obtain ⟨r,h2,rfl⟩:=map_some hf
    refine L2.i_EEEEEEAAA (hid) (H0) (ρ) (ow) (d) (A) (E) (EA) (h1) (fun x as H1 s1 n1 D1=>⟨hid2 hid H as,H0,ρ,ow,r,A,E.hide s1 as D1.lists,EA.hide s1 as,h2,fun xs bs H2 s2 n2 D2=>k (x :: xs) (as ++ bs) H2 (s1.trans s2) (fun p hp=>?_) ?_⟩)
    · rcases List.mem_append.mp hp with hp | hp
      · rcases n1 p hp with z | ⟨i,hi,z⟩
        · exact .inl z
        · exact .inr ⟨i,List.mem_append_left _ hi,z⟩
      · rcases n2 p hp with z | ⟨i,hi,z⟩
        · exact .inl (s1.free z)
        · exact .inr ⟨i,List.mem_append_right _ hi,z⟩
    · have dj:∀ p ∈ as,p ∉ bs:=fun p hp hq=>by
        refine L2.o_E (D1.lists p hp) fun vs e1=>?_
        rcases n2 p hq with z | ⟨j,hj,z⟩
        · rw [z] at e1; cases e1
        · rcases n1 p hp with y | ⟨i,hi,y⟩
          · have:=(E.isl p (EA.2.2 j p z)).1
            refine L2.o_E (this) fun ws e2=>?_
            rw [y] at e2; cases e2
          · by_cases hij:i = j
            · subst hij; exact hu i hi hj
            · exact EA.2.1 i j p hij y z
      refine .cons (D1.mono ?_ fun p _ o e=>s2 p o e) (D2.mono ?_ fun p _ o e=>e) dj
      · intro b o e
        by_cases hb:uni hid (as ++ ow) b
        · rw [del_in hb] at e; cases e
        · rw [del_out hb] at e
          rw [del_out fun z=>?_]
          · exact s2 b o e
          · rcases z with z | z
            · exact hb (.inl z)
            · rcases List.mem_append.mp z with z | z
              · rcases List.mem_append.mp z with z | z
                · exact hb (.inr (List.mem_append_left _ z))
                · rcases n2 b z with y | ⟨i,_,y⟩
                  · rw [y] at e; cases e
                  · exact hb (.inr (List.mem_append_right _ (EA.2.2 i b y)))
              · exact hb (.inr (List.mem_append_right _ z))
      · intro b o e
        by_cases hb:uni (hid2 hid H as) (bs ++ ow) b
        · rw [del_in hb] at e; cases e
        · rw [del_out hb] at e
          rw [del_out fun z=>?_]
          · exact e
          · rcases z with z | z
            · exact hb (.inl (.inl z))
            · rcases List.mem_append.mp z with z | z
              · rcases List.mem_append.mp z with z | z
                · rcases n1 b z with y | ⟨i,_,y⟩
                  · exact hb (.inl (.inr ⟨z,y⟩))
                  · exact hb (.inr (List.mem_append_right _ (EA.2.2 i b y)))
                · exact hb (.inr (List.mem_append_left _ z))
              · exact hb (.inr (List.mem_append_right _ z))
noncomputable def SpecCall (K:PySem.W.Frag) (r:List V → Hp → VK → Prop) (g:List PyData → Option PyData):Prop:=∀ xs H ds d Q,DenL K H xs ds → g ds = some d → (∀ v,Sc v d → Q v H) → r xs H Q
structure CallD (X:Cx) (u:Value) (g:List PyData → Option PyData):Prop where
  ex:∃ r,CallR X u r ∧ SpecCall X.K r g
theorem v_callB {x:Str} {p:Pos} {id:String} {g:List PyData → Option PyData} (C:CallD X (.builtin id) g) (hg:Gl X x) (hm:X.mg x = none) (hv:bootBuiltins x = some (.builtin id)) (ha:PAr X O (a :: es) fs) (hn:autoParam (x ≠ "__name__") L2.ad._auto_1) (hdb:autoParam ((x == ("__debug__":Str)) = false) L2.ad._auto_1)
    (he:autoParam (starEach (a :: es) X.env = (false,eval a X.env) :: starEach es X.env) L2.ar._auto_1) (hpl:autoParam ((backTo pos (starEach es X.env)).any (·.1) = false) L2.ar._auto_1):PV X O (.Call (.Name x p) (a :: es) [] pos) (fun ρ=>(fs ρ).bind g):=by
  refine L2.o_EA (C.ex) fun r hc hs=>?_
  refine (pe_callB hc hg hm hv ha hn hdb he hpl).imp fun σ H Q zpat=>?_
  obtain ⟨hid,H0,ρ,ow,d,E,hf,q⟩:=zpat
  obtain ⟨ds,h1,h2⟩:=bind_some hf
  exact ⟨hid,H0,ρ,ow,ds,E,h1,fun vs H1 s1 D1=>hs vs H1 ds d Q (D1.mono (del_same _ _)) h2 fun v S=>q v H1 s1 S.den⟩
theorem v_callT {x:Str} {p:Pos} {T:String} {g:List PyData → Option PyData} (C:CallD X (.type T) g) (hg:Gl X x) (hm:X.mg x = none) (hv:bootBuiltins x = some (.type T)) (ha:PAr X O (a :: es) fs) (hn:autoParam (x ≠ "__name__") L2.ad._auto_1) (hdb:autoParam ((x == ("__debug__":Str)) = false) L2.ad._auto_1)
    (he:autoParam (starEach (a :: es) X.env = (false,eval a X.env) :: starEach es X.env) L2.ar._auto_1) (hpl:autoParam ((backTo pos (starEach es X.env)).any (·.1) = false) L2.ar._auto_1):PV X O (.Call (.Name x p) (a :: es) [] pos) (fun ρ=>(fs ρ).bind g):=by
  refine L2.o_EA (C.ex) fun r hc hs=>?_
  refine (pe_callTy hc hg hm hv ha hn hdb he hpl).imp fun σ H Q zpat=>?_
  obtain ⟨hid,H0,ρ,ow,d,E,hf,q⟩:=zpat
  obtain ⟨ds,h1,h2⟩:=bind_some hf
  exact ⟨hid,H0,ρ,ow,ds,E,h1,fun vs H1 s1 D1=>hs vs H1 ds d Q (D1.mono (del_same _ _)) h2 fun v S=>q v H1 s1 S.den⟩
noncomputable def absD (ds:List PyData):Option PyData:=(one ds).bind fun d=>(intO d).map fun i=>.int (if i < 0 then -i else i)
noncomputable def lenD (ds:List PyData):Option PyData:=(one ds).bind fun d=>(seqD d).map fun es=>.int es.length
noncomputable def maxD (ds:List PyData):Option PyData:=(two ds).bind fun p=>int2 (fun i j=>.int (if j > i then j else i)) p.1 p.2
noncomputable def minD (ds:List PyData):Option PyData:=(two ds).bind fun p=>int2 (fun i j=>.int (if j < i then j else i)) p.1 p.2
noncomputable def intB:PyData → Option PyData
  | .int i=>some (.int i)
  | .bool b=>some (.int (if b then 1 else 0))
  | _=>none
noncomputable def intD (ds:List PyData):Option PyData:=(one ds).bind intB
theorem one_den {K:PySem.W.Frag} {H:Hp} {vs:List V} {d:PyData} (h:DenL K H vs [d]):∃ v,vs = [v] ∧ Den K H v d:=by
  refine L2.o_EEAA (denl_cons h) fun v ws zq2 h1 h2=>?_
  subst zq2
  rw [denl_nil h2]
  exact ⟨v,rfl,h1⟩
theorem two_den {K:PySem.W.Frag} {H:Hp} {vs:List V} {d e:PyData} (h:DenL K H vs [d,e]):∃ v w,vs = [v,w] ∧ Den K H v d ∧ Den K H w e:=by
  refine L2.o_EEAA (denl_cons h) fun v ws zq2 h1 h2=>?_
  subst zq2
  refine L2.o_EA (one_den h2) fun w zq1 h3=>?_
  subst zq1
  exact L2.i_EEAA (v) (w) (rfl) (h1) (h3)
theorem b_abs:CallD X (.builtin "abs") absD:=⟨_,call_abs,fun xs H ds d Q D h k=>by
  obtain ⟨e,h1,h⟩:=bind_some h
  obtain ⟨i,h2,rfl⟩:=map_some h
  obtain rfl:=one_some h1
  obtain rfl:=intO_some h2
  refine L2.o_EA (one_den D) fun v zq1 D1=>?_
  subst zq1
  exact ⟨_,by rw [den_int D1],k _ (.int _)⟩⟩
theorem b_len:CallD X (.builtin "len") lenD:=⟨_,call_len_seq,fun xs H ds d Q D h k=>by
  obtain ⟨e,h1,h⟩:=bind_some h
  obtain ⟨es,h2,rfl⟩:=map_some h
  obtain rfl:=one_some h1
  refine L2.o_EA (one_den D) fun v zq1 D1=>?_
  subst zq1
  rcases seqD_some h2 with rfl | rfl
  · obtain ⟨p,vs,rfl,q,r⟩:=den_lst D1
    exact L2.i_EEAA (p) (vs) (rfl) (.inl q) (by rw [r.length]; exact k _ (.int _))
  · obtain ⟨p,vs,rfl,q,r⟩:=den_tup D1
    exact L2.i_EEAA (p) (vs) (rfl) (.inr q) (by rw [r.length]; exact k _ (.int _))⟩
theorem two_ints {K:PySem.W.Frag} {H:Hp} {vs:List V} {ds:List PyData} {g:Int → Int → PyData} {r:PyData} (D:DenL K H vs ds) (h:((two ds).bind fun p=>int2 g p.1 p.2) = some r):∃ i j,vs = [.int i,.int j] ∧ r = g i j:=by
  obtain ⟨p,h1,h⟩:=bind_some h
  refine L2.o_EEAA (int2_some h) fun i j h2 h3 h4=>?_
  obtain rfl:=two_some h1
  rw [h2,h3] at D
  refine L2.o_EEAA (two_den D) fun v w zq2 D1 D2=>?_
  subst zq2
  exact L2.i_EEA (i) (j) (by rw [den_int D1,den_int D2]) (h4)
theorem b_max (hc:X.calm = true):CallD X (.builtin "max") maxD:=⟨_,call_max2 hc,fun xs H ds d Q D h k=>by
  refine L2.o_EEA (two_ints D h) fun i j h1 h2=>?_
  subst h2
  exact L2.i_EEA (i) (j) (h1) (k _ (.int _))⟩
theorem b_min (hc:X.calm = true):CallD X (.builtin "min") minD:=⟨_,call_min2 hc,fun xs H ds d Q D h k=>by
  refine L2.o_EEA (two_ints D h) fun i j h1 h2=>?_
  subst h2
  exact L2.i_EEA (i) (j) (h1) (k _ (.int _))⟩
theorem b_int:CallD X (.type "int") intD:=⟨_,call_int1,fun xs H ds d Q D h k=>by
  obtain ⟨e,h1,h⟩:=bind_some h
  obtain rfl:=one_some h1
  refine L2.o_EA (one_den D) fun v zq1 D1=>?_
  subst zq1
  cases e with
  | int i=>
    obtain rfl:=Option.some.inj h
    exact .inl ⟨_,by rw [den_int D1],k _ (.int _)⟩
  | bool b=>
    obtain rfl:=Option.some.inj h
    exact .inr ⟨_,by rw [den_bl D1],k _ (.int _)⟩
  | _=>exact L2.no_ns h⟩
theorem fr_list {p:Pos} (hg:Gl X "list") (hm:X.mg "list" = none) (ha:PR X O a fa) (he:autoParam (starEach [a] X.env = (false,eval a X.env) :: starEach [] X.env) L2.ar._auto_1) (hpl:autoParam ((backTo pos (starEach [] X.env)).any (·.1) = false) L2.ar._auto_1)
    (hv:bootBuiltins "list" = some (.type "list"):=by first | exact PySem.boot_list | rfl):PFr X O (.Call (.Name "list" p) [a] [] pos) (fun ρ=>(fa ρ).bind seqD):=
  (pe_callTy call_list_of hg hm hv (pa_cons ha pa_nil he) (by decide) (by decide) he hpl).imp fun σ H Q zpat=>by
    obtain ⟨hid,H0,ρ,ow,r,E,hf,k⟩:=zpat
    obtain ⟨d,h1,h2⟩:=bind_some hf
    refine ⟨hid,H0,ρ,ow,d,E,h1,fun x H1 s1 D1=>?_⟩
    rcases seqD_some h2 with rfl | rfl
    · obtain ⟨q,vs,rfl,q1,r1⟩:=den_lst D1
      exact L2.i_EEAA (q) (vs) (rfl) (.inl ((del_same _ _).seq q1)) (fun l hl=>k l vs _ (s1.trans (same_new hl)) (s1.free hl) upd_same (r1.mono (del_new (same_new hl) hl fun b z=>by rcases z with z | z; exact .inl z; exact .inr (by simpa using z))))
    · obtain ⟨q,vs,rfl,q1,r1⟩:=den_tup D1
      exact L2.i_EEAA (q) (vs) (rfl) (.inr ((del_same _ _).tup q1)) (fun l hl=>k l vs _ (s1.trans (same_new hl)) (s1.free hl) upd_same (r1.mono (del_new (same_new hl) hl fun b z=>by rcases z with z | z; exact .inl z; exact .inr (by simpa using z))))
end
end L2
namespace L2
open PySem PySem.Spec PyProof.Rows
variable [Reg]
inductive TGi (K:PySem.W.Frag) (O:Ow) (S:PyData → Rho → Option Rho) (v:V) (σ:St) (H:Hp) (Q:St → Hp → Prop):Prop
  | mk (hid:Addr → Prop) (H0:Hp) (ρ:Rho) (ow:List Addr) (d:PyData) (ρ':Rho) (E:EnvOk K O hid H0 σ H ρ ow) (D:Den K (del H (uni hid ow)) v d) (hs:S d ρ = some ρ') (k:∀ σ',EnvOk K O hid H0 σ' H ρ' ow → Q σ' H):TGi K O S v σ H Q
noncomputable def tG (K:PySem.W.Frag) (O:Ow) (S:PyData → Rho → Option Rho):TG:=fun v σ H Q=>TGi K O S v σ H Q
inductive TGsi (K:PySem.W.Frag) (O:Ow) (S:List PyData → Rho → Option Rho) (vs:List V) (σ:St) (H:Hp) (Q:St → Hp → Prop):Prop
  | mk (hid:Addr → Prop) (H0:Hp) (ρ:Rho) (ow:List Addr) (ds:List PyData) (ρ':Rho) (E:EnvOk K O hid H0 σ H ρ ow) (D:DenL K (del H (uni hid ow)) vs ds) (hs:S ds ρ = some ρ') (k:∀ σ',EnvOk K O hid H0 σ' H ρ' ow → Q σ' H):TGsi K O S vs σ H Q
noncomputable def tGs (K:PySem.W.Frag) (O:Ow) (S:List PyData → Rho → Option Rho):TGs:=fun vs σ H Q=>TGsi K O S vs σ H Q
noncomputable abbrev PGv (X:Cx) (O:Ow) (tg:Expr) (S:PyData → Rho → Option Rho):Prop:=PG X tg (tG X.K O S)
noncomputable abbrev PGsv (X:Cx) (O:Ow) (tg:List Expr) (S:List PyData → Rho → Option Rho):Prop:=PGs X tg (tGs X.K O S)
noncomputable def setS (i:Nat) (d:PyData) (ρ:Rho):Option Rho:=some (ρ.set i (some d))
noncomputable def consS (S:PyData → Rho → Option Rho) (T:List PyData → Rho → Option Rho):List PyData → Rho → Option Rho
  | d :: r,ρ=>(S d ρ).bind (T r)
  | [],_=>none
noncomputable def nilS:List PyData → Rho → Option Rho
  | [],ρ=>some ρ
  | _ :: _,_=>none
noncomputable def tupS (n:Nat) (T:List PyData → Rho → Option Rho):PyData → Rho → Option Rho
  | .tuple ds,ρ=>if ds.length = n then T ds ρ else none
  | _,_=>none
section
variable {X:Cx} {O:Ow} {pos:Pos}
theorem g_name {i:Nat} {x:Str} (hN:X.N.Nodup) (hi:X.N[i]? = some x) (hx:Loc X.env.scope x) (hO:autoParam (O.s.lookup i = none) L2.ar._auto_1) (hf:X.fn x = true ∨ X.env.scope.names.lookup x = some .local:=by first | exact .inl rfl | exact .inr rfl | assumption):PGv X O (.Name x pos) (setS i):=
  (pg_name hN hi hx hf).imp fun v σ H Q zpat=>by
    obtain ⟨hid,H0,ρ,ow,d,ρ',E,D,hS,k⟩:=zpat
    obtain rfl:=Option.some.inj hS
    exact k _ (E.set hO D)
theorem gs_nil:PGsv X O [] nilS:=pgs_nil.imp fun vs σ H Q zpat=>by
  obtain ⟨hid,H0,ρ,ow,ds,ρ',E,D,hS,k⟩:=zpat
  cases ds with
  | nil=>cases hS; exact ⟨denl_nil D,k _ E⟩
  | cons d r=>exact L2.no_ns hS
theorem gs_cons {e:Expr} {es:List Expr} {S:PyData → Rho → Option Rho} {T:List PyData → Rho → Option Rho} (h1:PGv X O e S) (h2:PGsv X O es T) (hs:autoParam ((assignEach (e :: es) X.env).map (·.2) = assign e X.env :: (assignEach es X.env).map (·.2)) L2.ar._auto_1):PGsv X O (e :: es) (consS S T):=
  (pgs_cons h1 h2 hs).imp fun vs σ H Q zpat=>by
    obtain ⟨hid,H0,ρ,ow,ds,ρ',E,D,hS,k⟩:=zpat
    cases ds with
    | nil=>exact L2.no_ns hS
    | cons d r=>
      refine L2.o_EEAA (denl_cons D) fun v ws zq2 D1 D2=>?_
      subst zq2
      obtain ⟨ρ1,h3,h4⟩:=bind_some hS
      exact ⟨v,ws,rfl,hid,H0,ρ,ow,d,ρ1,E,D1,h3,fun σ1 E1=>⟨hid,H0,ρ1,ow,r,ρ',E1,D2,h4,k⟩⟩
theorem g_tup {es:List Expr} {k:Nat} {n:Nat} {T:List PyData → Rho → Option Rho} (hc:X.calm = true) (h:PGsv X O es T) (hn:autoParam ((assignEach es X.env).length = n) L2.ar._auto_1) (hst:autoParam ((assignEach es X.env).findIdx? (·.1) = none) L2.ar._auto_1):PGv X O (.Tuple es k pos) (tupS n T):=
  (pg_tup hc h hn hst).imp fun v σ H Q zpat=>by
    obtain ⟨hid,H0,ρ,ow,d,ρ',E,D,hS,k⟩:=zpat
    cases d with
    | tuple ds=>
      rw [tupS] at hS
      split at hS
      · rename_i hl
        obtain ⟨a,vs,rfl,q,r⟩:=den_tup D
        exact ⟨a,vs,rfl,(del_same _ _).tup q,by rw [r.length]; exact hl,hid,H0,ρ,ow,ds,ρ',E,r,hS,k⟩
      · exact L2.no_ns hS
    | _=>exact L2.no_ns hS
end
structure GoodIt (K:PySem.W.Frag) (J:It) (G:Hp) (ds:List PyData):Prop where
  go:∀ H2 i,Same G H2 → i < ds.length → J.go i H2
  yld:∀ H2 i x H3 d,Same G H2 → ds[i]? = some d → J.yld i H2 x H3 → (H3 = H2 ∧ Den K G x d) ∨ ∃ p vs es,H2 p = none ∧ H3 = upd H2 p (.tup vs) ∧ x = .ref p ∧ d = .tuple es ∧ DenL K G vs es
  stop:∀ H2,Same G H2 → J.stop ds.length H2
noncomputable def tIr (K:PySem.W.Frag) (O:Ow) (f:Rho → Option (List PyData)):TI:=fun σ H R=>At5 K O f σ H fun hid H0 ρ ow ds=>∀ J H',Same H H' → GoodIt K J (del H' hid) ds → R J H'
noncomputable def tIv (K:PySem.W.Frag) (O:Ow) (f:Rho → Option (List PyData)):TI:=fun σ H R=>At5 K O f σ H fun hid H0 ρ ow ds=>∀ J H',Same H H' → GoodIt K J (del H' (uni hid ow)) ds → R J H'
noncomputable abbrev PIr (X:Cx) (O:Ow) (tg iter:Expr) (f:Rho → Option (List PyData)):Prop:=PI X tg iter (tIr X.K O f)
noncomputable abbrev PIv (X:Cx) (O:Ow) (tg iter:Expr) (f:Rho → Option (List PyData)):Prop:=PI X tg iter (tIv X.K O f)
theorem good_list {K:PySem.W.Frag} {G:Hp} {a:Addr} {xs:List V} {ds:List PyData} (q:SqL K G a xs) (r:DenL K G xs ds):GoodIt K (Itl K a) G ds where
  go:=fun H2 i s h=>by
    have hl:i < xs.length:=by rw [r.length]; exact h
    exact L2.i_EEA (xs) (xs[i]) (s.seq q) (by simp [hl])
  yld:=fun H2 i x H3 d s h y=>by
    revert y
    refine fun zqq=>L2.o_A zqq fun zq0 y=>?_
    clear zqq
    subst zq0
    refine L2.o_EA (r.get h) fun v h1 h2=>?_
    have:=y xs (s.seq q)
    rw [h1] at this
    obtain rfl:=Option.some.inj this
    exact .inl ⟨rfl,h2⟩
  stop:=fun H2 s=>⟨xs,s.seq q,by rw [r.length]; exact Nat.le_refl _⟩
noncomputable def rngL (lo:Int) (n:Nat):List PyData:=(List.range n).map fun i=>.int (lo + (i:Nat))
theorem good_rng {K:PySem.W.Frag} {G:Hp} (lo:Int) (n:Nat):GoodIt K (Itr lo n) G (rngL lo n) where
  go:=fun H2 i s h=>by
    have:i < n:=by simpa [rngL] using h
    exact this
  yld:=fun H2 i x H3 d s h y=>by
    revert y
    refine fun zqq=>L2.o_A zqq fun zq0 zq1=>?_
    clear zqq
    subst zq0
    subst zq1
    have:i < n ∧ PyData.int (lo + i) = d:=by
      unfold rngL at h
      rw [List.getElem?_map] at h
      cases e:(List.range n)[i]? with
      | none=>rw [e] at h; cases h
      | some j=>
        rw [e] at h
        refine L2.o_E (List.getElem?_eq_some_iff.mp e) fun h1 h2=>?_
        have h3:i = j:=by simpa using h2
        subst h3
        exact ⟨by simpa using h1,Option.some.inj h⟩
    rw [← this.2]
    exact .inl ⟨rfl,.int _⟩
  stop:=fun H2 s=>by
    show n ≤ (rngL lo n).length
    simp [rngL]
section
variable {X:Cx} {O:Ow} {pos p:Pos} {tg e:Expr} {f:Rho → Option PyData}
theorem ir_list (h:PR X O e f):PIr X O tg e (fun ρ=>(f ρ).bind listD):=(pi_list h).imp fun σ H R zpat=>by
  obtain ⟨hid,H0,ρ,ow,ds,E,hf,k⟩:=zpat
  obtain ⟨d,h1,h2⟩:=bind_some hf
  rw [listD_some h2] at h1
  refine ⟨hid,H0,ρ,ow,_,E,h1,fun v H' s D=>?_⟩
  obtain ⟨a,xs,rfl,q,r⟩:=den_lst D
  exact ⟨a,rfl,⟨xs,(del_same _ _).seq q⟩,k _ H' s (good_list q r)⟩
theorem iv_list (h:PV X O e f):PIv X O tg e (fun ρ=>(f ρ).bind listD):=(pi_list h).imp fun σ H R zpat=>by
  obtain ⟨hid,H0,ρ,ow,ds,E,hf,k⟩:=zpat
  obtain ⟨d,h1,h2⟩:=bind_some hf
  rw [listD_some h2] at h1
  refine ⟨hid,H0,ρ,ow,_,E,h1,fun v H' s D=>?_⟩
  obtain ⟨a,xs,rfl,q,r⟩:=den_lst D
  exact ⟨a,rfl,⟨xs,(del_same _ _).seq q⟩,k _ H' s (good_list q r)⟩
noncomputable def rng1D (ds:List PyData):Option (List PyData):=(one ds).bind fun d=>(intO d).bind fun j=>if decide (j.natAbs < 2 ^ 61) = true then some (rngL 0 j.toNat) else none
theorem nat_62 {j:Int} (h:j.natAbs < 2 ^ 61):-(2 ^ 62) ≤ j ∧ j < 2 ^ 62:=by omega
variable {a b:Expr} {fs:Rho → Option (List PyData)}
theorem rng1D_some {ds es:List PyData} (h:rng1D ds = some es):∃ j,ds = [.int j] ∧ -(2 ^ 62) ≤ j ∧ j < 2 ^ 62 ∧ es = rngL 0 j.toNat:=by
  obtain ⟨d,h1,g1⟩:=bind_some h
  obtain ⟨j,h2,g2⟩:=bind_some g1
  obtain rfl:=one_some h1
  obtain rfl:=intO_some h2
  split at g2
  · rename_i hc
    have hc':=nat_62 (of_decide_eq_true hc)
    exact ⟨j,rfl,hc'.1,hc'.2,(Option.some.inj g2).symm⟩
  · exact L2.no_ns g2
theorem iv_rng1 (hg:Gl X "range") (hm:X.mg "range" = none) (ha:PAr X O [a] fs) (hs:autoParam (starEach [a] X.env = [(false,eval a X.env)]) L2.ar._auto_1):PIv X O tg (.Call (.Name "range" p) [a] [] pos) (fun ρ=>(fs ρ).bind rng1D):=
  (pi_range1 hg hm ha hs).imp fun σ H R zpat=>by
    obtain ⟨hid,H0,ρ,ow,ds,E,hf,k⟩:=zpat
    obtain ⟨es,h1,h2⟩:=bind_some hf
    refine L2.o_EAAA (rng1D_some h2) fun j zq1 h3 h4 zq4=>?_
    subst zq1
    subst zq4
    refine ⟨hid,H0,ρ,ow,_,E,h1,fun vs H' s D=>?_⟩
    refine L2.o_EA (one_den D) fun v zq1 D1=>?_
    subst zq1
    exact ⟨j,by rw [den_int D1],h3,h4,k _ H' s (good_rng 0 j.toNat)⟩
end
theorem GoodIt.mono {K:PySem.W.Frag} {J:It} {G G':Hp} {ds:List PyData} (h:GoodIt K J G ds) (s:Same G G'):GoodIt K J G' ds where
  go:=fun H2 i e hi=>h.go H2 i (s.trans e) hi
  yld:=fun H2 i x H3 d e hd y=>by
    rcases h.yld H2 i x H3 d (s.trans e) hd y with ⟨a,b⟩ | ⟨p,vs,es,a,b,c,d',e'⟩
    · exact .inl ⟨a,b.mono s⟩
    · exact .inr ⟨p,vs,es,a,b,c,d',e'.mono s⟩
  stop:=fun H2 e=>h.stop H2 (s.trans e)
theorem GoodIt.step {K:PySem.W.Frag} {J:It} {G H2 H3:Hp} {ds:List PyData} {P:Addr → Prop} {i:Nat} {x:V} {d:PyData} (Gd:GoodIt K J G ds) (into:Same G (del H2 P)) (np:∀ p,H2 p = none → ¬ P p) (hd:ds[i]? = some d) (y:J.yld i H2 x H3):Same H2 H3 ∧ Den K (del H3 P) x d:=by
  rcases Gd.yld H2 i x H3 d (into.trans (del_same _ _)) hd y with ⟨rfl,Dx⟩ | ⟨p,vs,es,hp,rfl,rfl,hde,De⟩
  · exact ⟨Same.refl _,Dx.mono into⟩
  · refine ⟨same_new hp,?_⟩
    rw [hde]
    exact .tup (SqT.of (by rw [del_out (np p hp),upd_same])) ((De.mono into).mono (del_mono (same_new hp) _))
inductive Mid (ds:List PyData) (i m:Nat) (rest:List PyData):Prop
  | mk (pre:List PyData) (e:ds = pre ++ rest) (hi:pre.length = i) (hm:rest.length = m):Mid ds i m rest
theorem Mid.start (ds:List PyData):Mid ds 0 ds.length ds:=⟨[],rfl,rfl,rfl⟩
theorem Mid.fin {ds:List PyData} {i m:Nat} (h:Mid ds i m []):i = ds.length:=by
  cases h with
  | mk pre e hi hm=>rw [e,List.append_nil,hi]
theorem Mid.cut {ds:List PyData} {i m:Nat} {d:PyData} {r:List PyData} (h:Mid ds i m (d :: r)):i < ds.length ∧ ds[i]? = some d ∧ ∃ m',m' < m ∧ Mid ds (i + 1) m' r:=by
  cases h with
  | mk pre e hi hm=>
    subst e hi hm
    refine ⟨by rw [List.length_append]; exact Nat.lt_add_of_pos_right (Nat.zero_lt_succ _),by rw [List.getElem?_append_right (Nat.le_refl _),Nat.sub_self]; rfl,r.length,Nat.lt_succ_self _,pre ++ [d],by rw [List.append_assoc]; rfl,by rw [List.length_append]; rfl,rfl⟩
theorem PIv.raw {X:Cx} {O:Ow} {tg e:Expr} {f:Rho → Option (List PyData)} (h:PIv X O tg e f):PIr X O tg e f:=h.imp fun σ H R ⟨hid,H0,ρ,ow,ds,E,hf,k⟩=>⟨hid,H0,ρ,ow,ds,E,hf,fun J H' s G=>k J H' s (G.mono (del_uni _ _ _))⟩
noncomputable abbrev O0:Ow:=⟨[],.cl⟩
noncomputable def compD (S:PyData → Rho → Option Rho) (ft:Rho → Option Bool) (fe:Rho → Option PyData):List PyData → Rho → Option (List PyData)
  | [],_=>some []
  | d :: r,ρ=>(S d ρ).bind fun ρ1=>(ft ρ1).bind fun c=>if c = true then (fe ρ1).bind fun y=>(compD S ft fe r ρ1).map (y :: ·) else compD S ft fe r ρ1
noncomputable def compO (S:PyData → Rho → Option Rho) (ft:Rho → Option Bool) (fe:Rho → Option PyData) (x:Option (List PyData)) (ρ:Rho):Option (List PyData):=x.bind fun ds=>if decide (ds.length ≤ 1000) = true then compD S ft fe ds ρ else none
noncomputable abbrev PIfv (X:Cx) (ifs:List Expr) (ft:Rho → Option Bool):Prop:=PIf X ifs (tT X.K O0 ft)
theorem if_nil {X:Cx}:PIfv X [] (fun _=>some true):=fun pins s σ H Q I zpat=>by
  obtain ⟨hid,H0,ρ,ow,b,E,hf,k⟩:=zpat
  obtain rfl:=Option.some.inj hf
  exact pif_nil pins s σ H Q I (k H (Same.refl H))
noncomputable def frees (k:Nat) (ix:List Nat) (ρ:Rho):Rho:=List.replicate k none ++ ix.map fun i=>(ρ[i]?).join
theorem frees_ok {K:PySem.W.Frag} {O:Ow} {hid hid':Addr → Prop} {H0 H H':Hp} {σ:St} {ρ:Rho} {ow:List Addr} (E:EnvOk K O hid H0 σ H ρ ow) (s:Same H H') (hs:Same (del H hid) (del H' hid')) (hh:∀ b,hid' b → ∃ vs:OwO,H' b = some vs.ho) (k:Nat) (ix:List Nat):EnvOk K O0 hid' H (stComp k ix σ) H' (frees k ix ρ) []:=by
  refine ⟨?_,fun b o e=>(by rw [del_out (by simp)]; exact s b o e),fun i d _ h=>?_,⟨fun _=>[],fun i t d h=>(by cases h),fun i j p _ h=>(by cases h),fun i p h=>(by cases h)⟩,fun l h=>(by cases h),hh,fun _=>rfl⟩
  · unfold frees stComp
    simp
  · rw [uni_nil]
    unfold frees at h
    unfold stComp
    by_cases hi:i < k
    · rw [List.getElem?_append_left (by simpa using hi),List.getElem?_replicate,if_pos hi] at h
      cases h
    · have hj:k ≤ i:=Nat.le_of_not_lt hi
      rw [List.getElem?_append_right (by simpa using hj),List.getElem?_map] at h
      rw [List.getElem?_append_right (by simpa using hj),List.getElem?_map]
      simp only [List.length_replicate] at h ⊢
      cases q:ix[i - k]? with
      | none=>rw [q] at h; cases h
      | some j=>
        rw [q] at h
        have h':(ρ[j]?).join = some d:=Option.some.inj h
        refine L2.o_EA (E.raw (join_some h')) fun v h1 h2=>?_
        exact ⟨v,by simp [h1],h2.mono hs⟩
theorem EnvOk.updHid {K:PySem.W.Frag} {O:Ow} {hid:Addr → Prop} {H0 H:Hp} {σ:St} {ρ:Rho} {ow:List Addr} (E:EnvOk K O hid H0 σ H ρ ow) {l:Addr} {ws:List V} (hl:hid l) (h0:H0 l = none):EnvOk K O hid H0 σ (upd H l (.lst ws)) ρ ow:=by
  have ed:del (upd H l (.lst ws)) (uni hid ow) = del H (uni hid ow):=del_upd (.inl hl)
  have nl:∀ l' ∈ ow,l' ≠ l:=fun l' h z=>(E.isl l' h).2 (z ▸ hl)
  refine ⟨E.len,fun b u e=>?_,fun i d hi h=>by rw [ed]; exact E.val i d hi h,?_,fun l' h=>?_,fun b hb=>?_,E.emp⟩
  · have hne:b ≠ l:=ne_of_none e h0
    have q:=E.base b u e
    by_cases hb:b ∈ ow
    · rw [del_in hb] at q; cases q
    · rw [del_out hb] at q ⊢
      rw [upd_ne hne]
      exact q
  · refine L2.o_EAA (E.own) fun A a1 a2 a3=>?_
    refine ⟨A,fun i t d hi h=>?_,a2,a3⟩
    refine L2.o_EA (a1 i t d hi h) fun v q r=>?_
    exact ⟨v,q,by rw [ed]; exact r.mono (Same.refl _) fun p hp o e=>by rw [upd_ne (nl p (a3 i p hp))]; exact e⟩
  · obtain ⟨⟨vs,q⟩,n⟩:=E.isl l' h
    exact ⟨⟨vs,by rw [upd_ne (nl l' h)]; exact q⟩,n⟩
  · by_cases hne:b = l
    · subst hne; rw [upd_same]; exact ⟨.l _,rfl⟩
    · rw [upd_ne hne]; exact E.ishL b hb
inductive CIv (K:PySem.W.Frag) (hid:Addr → Prop) (H H1:Hp) (D:Addr) (S:PyData → Rho → Option Rho) (ft:Rho → Option Bool) (fe:Rho → Option PyData) (ds out:List PyData) (i m:Nat) (τ:St) (H2:Hp):Prop
  | mk (ρ2:Rho) (ys:List V) (done rest left:List PyData) (hM:Mid ds i m left) (E2:EnvOk K O0 (uni hid [D]) H τ H2 ρ2 []) (s2:Same H1 H2) (hy:H2 D = some (.lst ys)) (hd:DenL K (del H2 (uni hid [D])) ys done) (hr:compD S ft fe left ρ2 = some rest) (ho:out = done ++ rest) (hl:done.length ≤ i):CIv K hid H H1 D S ft fe ds out i m τ H2
theorem uniD {hid:Addr → Prop} {D b:Addr} (z:uni hid [D] b):hid b ∨ b = D:=z.imp id List.mem_singleton.mp
theorem comp_imp {K:PySem.W.Frag} {O:Ow} {fi:Rho → Option (List PyData)} {S:PyData → Rho → Option Rho} {ft:Rho → Option Bool} {fe:Rho → Option PyData} {k:Nat} {ix:List Nat}:∀ σ H Q,tFr K O (fun ρ=>compO S ft fe (fi ρ) (frees k ix ρ)) σ H Q → tComp (tIr K O fi) (tG K O0 S) (tT K O0 ft) (tR K O0 fe) (stComp k ix) σ H Q:=fun σ H Q zpat=>by
  obtain ⟨hid,H0,ρ,ow,out,E,hf,q⟩:=zpat
  obtain ⟨ds,h1,h2⟩:=bind_some hf
  split at h2
  case isFalse=>cases h2
  rename_i hlen
  have hz:ds.length ≤ 1000:=of_decide_eq_true hlen
  clear hf hlen
  refine ⟨hid,H0,ρ,ow,ds,E,h1,fun J H1 s1 G D hD=>?_⟩
  clear h1
  have hDH:H D = none:=s1.free hD
  have hDh:uni hid [D] D:=.inr List.mem_cons_self
  refine ⟨CIv K hid H H1 D S ft fe ds out,⟨ds.length,.mk (frees k ix ρ) [] [] out ds (.start ds) ?_ (same_new hD) upd_same .nil h2 rfl (Nat.le_refl _)⟩,fun i m τ H2 zp=>?_⟩
  · refine frees_ok E (s1.trans (same_new hD)) (del_new (s1.trans (same_new hD)) hDH fun b z=>uniD z) (fun b z=>?_) k ix
    rcases uniD z with z | z
    · refine L2.o_E (E.ishL b z) fun vs e=>?_
      exact ⟨vs,(s1.trans (same_new hD)) _ _ e⟩
    · rw [z,upd_same]
      exact ⟨.l _,rfl⟩
  · obtain ⟨ρ2,ys,done,rest,left,hM,E2,s2,hy,hd,hr,ho,hdl⟩:=zp
    have into:Same (del H1 hid) (del H2 (uni hid [D])):=del_new s2 hD fun b z=>uniD z
    have keep:Same (del H1 hid) H2:=into.trans (del_same _ _)
    cases left with
    | nil=>
      obtain rfl:=hM.fin
      rw [compD] at hr
      obtain rfl:=Option.some.inj hr
      rw [List.append_nil] at ho
      subst ho
      exact .inl ⟨G.stop H2 keep,q D ys H2 (s1.trans s2) hDH hy hd⟩
    | cons d r=>
      obtain ⟨hlt,hdi,m',hm',hM'⟩:=hM.cut
      rw [compD] at hr
      obtain ⟨ρ3,g1,hr⟩:=bind_some hr
      obtain ⟨c,g2,hr⟩:=bind_some hr
      refine .inr ⟨G.go H2 i keep hlt,CIv K hid H H1 D S ft fe ds out (i + 1) m',fun τ' H' z=>⟨m',hm',z⟩,fun x H3 y=>?_⟩
      refine L2.o_A (G.step into (fun p hp z=>E2.fresh hp (.inl z)) hdi y) fun s23 Dx=>?_
      rw [← uni_nil (uni hid [D])] at Dx
      refine ⟨uni hid [D],H,ρ2,[],d,ρ3,E2.mono s23,Dx,g1,fun τ3 E3=>⟨uni hid [D],H,ρ3,[],c,E3,g2,fun H5 s5=>?_⟩⟩
      have sA:Same H2 H5:=s23.trans s5
      clear Dx g1 g2 y
      cases c with
      | false=>
        dsimp only
        rw [if_neg Bool.false_ne_true] at hr ⊢
        exact .mk ρ3 ys done rest r hM' (E3.mono s5) (s2.trans sA) (sA _ _ hy) (hd.mono (del_mono sA _)) hr ho (Nat.le_succ_of_le hdl)
      | true=>
        dsimp only
        rw [if_pos rfl] at hr ⊢
        obtain ⟨yv,g3,hr⟩:=bind_some hr
        obtain ⟨rest2,g4,rfl⟩:=map_some hr
        refine ⟨uni hid [D],H,ρ3,[],yv,E3.mono s5,g3,fun y H6 s6 Dy=>?_⟩
        have sB:Same H2 H6:=sA.trans s6
        refine ⟨ys,sB _ _ hy,?_,.mk ρ3 (ys ++ [y]) (done ++ [yv]) rest2 r hM' (((E3.mono s5).mono s6).updHid hDh hDH) (fun b o e=>?_) upd_same ?_ g4 ?_ ?_⟩
        · rw [hd.length]
          exact Nat.lt_of_le_of_lt hdl (Nat.lt_of_lt_of_le hlt (Nat.le_trans hz (by decide)))
        · rw [upd_ne (ne_of_none e hD)]
          exact sB b o (s2 b o e)
        · rw [del_upd hDh]
          exact (hd.mono (del_mono sB _)).append (.cons Dy .nil)
        · rw [ho,List.append_assoc]; rfl
        · rw [List.length_append]
          exact Nat.succ_le_succ hdl
theorem fr_comp {X:Cx} {O:Ow} {elt tg iter:Expr} {ifs:List Expr} {scope:Scope} {pos:Pos} {fi:Rho → Option (List PyData)} {S:PyData → Rho → Option Rho} {ft:Rho → Option Bool} {fe:Rho → Option PyData} {k:Nat} {N:List Str} {ix:List Nat} (sc:Scope) (hsc:X.env.scope = sc) (C:CompSc sc X.N scope k N ix)
    (hx:X.xe = fun _ _=>False) (hc:X.calm = true) (hi:PIr X O tg iter fi)
    (hg:∀ cl C s3 H3 fp pins,PGv (cxComp X N scope cl C s3 H3 fp pins) O0 tg S) (ht:∀ cl C s3 H3 fp pins,PIfv (cxComp X N scope cl C s3 H3 fp pins) ifs ft) (he:∀ cl C s3 H3 fp pins,PR (cxComp X N scope cl C s3 H3 fp pins) O0 elt fe)
    (hs:∀ x,foldedSetIterable iter X.env x = pure x:=by intro _; rfl) :
    PFr X O (.ListComp elt [⟨tg,iter,ifs,0⟩] scope pos) (fun ρ=>compO S ft fe (fi ρ) (frees k ix ρ)):=by
  exact (pe_comp (g:=tG X.K O0 S) (tc:=tT X.K O0 ft) (te:=tR X.K O0 fe) sc hsc C hx hc hi hg ht he hs).imp comp_imp
inductive Out where
  | nx (ρ:Rho) | rt (d:PyData) | bk (ρ:Rho) | ct (ρ:Rho)
noncomputable def Then (K:PySem.W.Frag) (O:Ow) (hid:Addr → Prop) (H0 G:Hp) (D:Ends):Out → Prop
  | .nx ρ'=>∀ σ' H' ow',Same G (del H' (uni hid ow')) → EnvOk K O hid H0 σ' H' ρ' ow' → D.nx σ' H'
  | .bk ρ'=>∀ σ' H' ow',Same G (del H' (uni hid ow')) → EnvOk K O hid H0 σ' H' ρ' ow' → D.bk σ' H'
  | .ct ρ'=>∀ σ' H' ow',Same G (del H' (uni hid ow')) → EnvOk K O hid H0 σ' H' ρ' ow' → D.ct σ' H'
  | .rt d=>∀ v as H',Same H0 H' → (∀ p ∈ as,H0 p = none) → DenO K H' (del H' (uni hid as)) O.r v d as → D.rt v H'
noncomputable def tP (K:PySem.W.Frag) (O:Ow) (F:Rho → Option Out):TS:=fun D σ H=>At5 K O F σ H fun hid H0 ρ ow o=>Then K O hid H0 (del H (uni hid ow)) D o
noncomputable abbrev PSv (X:Cx) (O:Ow) (st:Stmt) (F:Rho → Option Out):Prop:=PS X st (tP X.K O F)
noncomputable abbrev PSsv (X:Cx) (O:Ow) (st:List Stmt) (F:Rho → Option Out):Prop:=PSs X st (tP X.K O F)
theorem Then.weak {K:PySem.W.Frag} {O:Ow} {hid:Addr → Prop} {H0 G G':Hp} {D:Ends} {o:Out} (s:Same G G') (h:Then K O hid H0 G D o):Then K O hid H0 G' D o:=by
  cases o with
  | nx ρ=>exact fun σ' H' ow' s' E=>h σ' H' ow' (s.trans s') E
  | bk ρ=>exact fun σ' H' ow' s' E=>h σ' H' ow' (s.trans s') E
  | ct ρ=>exact fun σ' H' ow' s' E=>h σ' H' ow' (s.trans s') E
  | rt d=>exact h
theorem EnvOk.baseS {K:PySem.W.Frag} {O:Ow} {hid:Addr → Prop} {H0 H:Hp} {σ:St} {ρ:Rho} {ow:List Addr} (E:EnvOk K O hid H0 σ H ρ ow):Same H0 H:=E.base.trans (del_same _ _)
noncomputable def seqF (F G:Rho → Option Out) (ρ:Rho):Option Out:=(F ρ).bind fun o=>match o with
  | .nx ρ'=>G ρ'
  | .rt d=>some (.rt d)
  | .bk ρ'=>some (.bk ρ')
  | .ct ρ'=>some (.ct ρ')
noncomputable def forD (S:PyData → Rho → Option Rho) (F:Rho → Option Out):List PyData → Rho → Option Out
  | [],ρ=>some (.nx ρ)
  | d :: r,ρ=>(S d ρ).bind fun ρ1=>(F ρ1).bind fun o=>match o with
    | .nx ρ2=>forD S F r ρ2
    | .ct ρ2=>forD S F r ρ2
    | .bk ρ2=>some (.nx ρ2)
    | .rt v=>some (.rt v)
noncomputable def setO (i:Nat) (ρ:Rho) (x:Option PyData):Option Out:=x.map fun d=>.nx (ρ.set i (some d))
noncomputable def setLO (i:Nat) (ρ:Rho) (x:Option (List PyData)):Option Out:=x.map fun ds=>.nx (ρ.set i (some (.list ds)))
noncomputable def dropO (ρ:Rho) (x:Option PyData):Option Out:=x.map fun _=>.nx ρ
noncomputable def asgO (S:PyData → Rho → Option Rho) (ρ:Rho) (x:Option PyData):Option Out:=x.bind fun d=>(S d ρ).map .nx
noncomputable def forO (S:PyData → Rho → Option Rho) (F:Rho → Option Out) (x:Option (List PyData)) (ρ:Rho):Option Out:=x.bind fun ds=>forD S F ds ρ
noncomputable def whileD (t:Rho → Option Bool) (F:Rho → Option Out):Nat → Rho → Option Out
  | 0,_=>none
  | n + 1,ρ=>(t ρ).bind fun c=>if c = true then (F ρ).bind fun o=>match o with
    | .nx ρ2=>whileD t F n ρ2
    | .ct ρ2=>whileD t F n ρ2
    | .bk ρ2=>some (.nx ρ2)
    | .rt v=>some (.rt v) else some (.nx ρ)
section
variable {X:Cx} {O:Ow} {st:Stmt} {rest:List Stmt} {F G:Rho → Option Out} {e:Expr} {f:Rho → Option PyData} {pos:Pos}
theorem ss_nil:PSsv X O [] (fun ρ=>some (.nx ρ)):=pss_nil.imp fun D σ H zpat=>by
  obtain ⟨hid,H0,ρ,ow,o,E,hf,k⟩:=zpat
  obtain rfl:=Option.some.inj hf
  exact k σ H ow (Same.refl _) E
theorem ss_cons (h1:PSv X O st F) (h2:PSsv X O rest G):PSsv X O (st :: rest) (seqF F G):=(pss_cons h1 h2).imp fun D σ H zpat=>by
  obtain ⟨hid,H0,ρ,ow,o,E,hf,k⟩:=zpat
  obtain ⟨o1,g1,g2⟩:=bind_some hf
  refine ⟨hid,H0,ρ,ow,o1,E,g1,?_⟩
  cases o1 with
  | nx ρ1=>exact fun σ' H' ow' s' E'=>⟨hid,H0,ρ1,ow',o,E',g2,by cases o <;> exact k.weak s'⟩
  | rt d=>cases g2; exact k
  | bk ρ1=>cases g2; exact k
  | ct ρ1=>cases g2; exact k
theorem ss_one (h1:PSv X O st F):PSsv X O [st] F:=pss_one h1
theorem s_never:PSv X O st (fun _=>none):=ps_never.imp fun D σ H ⟨hid,H0,ρ,ow,o,E,hf,k⟩=>by cases hf
theorem s_expr (h:PR X O e f) (hs:autoParam (swapsWith e none pos.line X.env = pure false) L2.ar._auto_1):PSv X O (.Expr e pos) (fun ρ=>dropO ρ (f ρ)):=(ps_expr h hs).imp fun D σ H zpat=>by
  obtain ⟨hid,H0,ρ,ow,o,E,hf,k⟩:=zpat
  obtain ⟨d,g1,rfl⟩:=map_some hf
  exact ⟨hid,H0,ρ,ow,d,E,g1,fun v H' s _=>k σ H' ow (del_mono s _) (E.mono s)⟩
theorem s_ret (h:PR X O e f) (hr:autoParam (O.r = .cl) L2.ar._auto_1):PSv X O (.Return (some e) pos) (fun ρ=>(f ρ).map .rt):=(ps_ret h).imp fun D σ H zpat=>by
  obtain ⟨hid,H0,ρ,ow,o,E,hf,k⟩:=zpat
  obtain ⟨d,g1,rfl⟩:=map_some hf
  exact ⟨hid,H0,ρ,ow,d,E,g1,fun v H' s Dv=>k v [] H' (E.baseS.trans s) (fun p hp=>by cases hp) (by rw [hr,uni_nil]; exact .cl Dv)⟩
theorem s_retO {U:List Nat} (h:PRt X O U O.r e f):PSv X O (.Return (some e) pos) (fun ρ=>(f ρ).map .rt):=(ps_ret h).imp fun D σ H zpat=>by
  obtain ⟨hid,H0,ρ,ow,o,E,hf,k⟩:=zpat
  obtain ⟨d,g1,rfl⟩:=map_some hf
  refine L2.o_E (E.own) fun A EA=>?_
  refine L2.i_EEEEEEAAA (hid) (H0) (ρ) (ow) (d) (A) (E) (EA) (g1) (fun v as H' s n Dv=>k v as H' (E.baseS.trans s) (fun p hp=>?_) (Dv.mono (del_sub (uni_mono fun p hp=>List.mem_append_left _ hp)) fun p _ o e=>e))
  rcases n p hp with z | ⟨i,_,z⟩
  · exact E.baseS.free z
  · exact E.ow0 (EA.2.2 i p z)
theorem s_if {c:Expr} {a b:List Stmt} {ft:Rho → Option Bool} (hc:PTv X O c ft) (ha:PSsv X O a F) (hb:PSsv X O b G):PSv X O (.If c a b pos) (fun ρ=>condO (ft ρ) (F ρ) (G ρ)):=(ps_if hc ha hb).imp fun D σ H zpat=>by
  obtain ⟨hid,H0,ρ,ow,o,E,hf,k⟩:=zpat
  obtain ⟨c,g1,g2⟩:=bind_some hf
  refine ⟨hid,H0,ρ,ow,c,E,g1,fun H' s=>?_⟩
  cases c with
  | true=>rw [if_pos rfl] at g2 ⊢; exact ⟨hid,H0,ρ,ow,o,E.mono s,g2,k.weak (del_mono s _)⟩
  | false=>rw [if_neg Bool.false_ne_true] at g2 ⊢; exact ⟨hid,H0,ρ,ow,o,E.mono s,g2,k.weak (del_mono s _)⟩
theorem s_set {i:Nat} {x:Str} {pos':Pos} (hN:X.N.Nodup) (hi:X.N[i]? = some x) (hx:Loc X.env.scope x) (he:PV X O e f) (hO:autoParam (O.s.lookup i = none) L2.ar._auto_1) (hs:autoParam (swapsWith e (some (.Name x pos')) pos.line X.env = pure false) L2.ar._auto_1) (hf:X.fn x = true ∨ X.env.scope.names.lookup x = some .local:=by first | exact .inl rfl | exact .inr rfl | assumption) :
    PSv X O (.Assign [.Name x pos'] e pos) (fun ρ=>setO i ρ (f ρ)):=(ps_set hN hi hx he hs hf).imp fun D σ H zpat=>by
  obtain ⟨hid,H0,ρ,ow,o,E,hf,k⟩:=zpat
  obtain ⟨d,g1,rfl⟩:=map_some hf
  exact ⟨hid,H0,ρ,ow,d,E,g1,fun v H' s Dv=>k _ H' ow (del_mono s _) ((E.mono s).set hO Dv)⟩
theorem s_setT {i:Nat} {x:Str} {pos':Pos} {T:Ty} (hN:X.N.Nodup) (hi:X.N[i]? = some x) (hx:Loc X.env.scope x) (he:PFt X O T e f) (hO:autoParam (O.s.lookup i = some T) L2.ar._auto_1) (hs:autoParam (swapsWith e (some (.Name x pos')) pos.line X.env = pure false) L2.ar._auto_1) (hf:X.fn x = true ∨ X.env.scope.names.lookup x = some .local:=by first | exact .inl rfl | exact .inr rfl | assumption) :
    PSv X O (.Assign [.Name x pos'] e pos) (fun ρ=>setO i ρ (f ρ)):=(ps_set hN hi hx he hs hf).imp fun D σ H zpat=>by
  obtain ⟨hid,H0,ρ,ow,o,E,hf,k⟩:=zpat
  obtain ⟨d,g1,rfl⟩:=map_some hf
  refine ⟨hid,H0,ρ,ow,d,E,g1,fun v as H' s n Dv=>k _ H' (as ++ ow) ?_ (E.setT s hO n Dv)⟩
  intro b u z
  by_cases hb:uni hid ow b
  · rw [del_in hb] at z; cases z
  · rw [del_out hb] at z
    rw [del_out fun y=>?_]
    · exact s b u z
    · rcases y with y | y
      · exact hb (.inl y)
      · rcases List.mem_append.mp y with y | y
        · rw [n b y] at z; cases z
        · exact hb (.inr y)
theorem s_setO {i:Nat} {x:Str} {pos':Pos} {f:Rho → Option (List PyData)} (hN:X.N.Nodup) (hi:X.N[i]? = some x) (hx:Loc X.env.scope x) (he:PFc X O e f) (hO:autoParam (O.s.lookup i = some (.lst .cl)) L2.ar._auto_1) (hs:autoParam (swapsWith e (some (.Name x pos')) pos.line X.env = pure false) L2.ar._auto_1) (hf:X.fn x = true ∨ X.env.scope.names.lookup x = some .local:=by first | exact .inl rfl | exact .inr rfl | assumption) :
    PSv X O (.Assign [.Name x pos'] e pos) (fun ρ=>setLO i ρ (f ρ)):=(s_setT hN hi hx he.ft hO hs hf).imp fun D σ H zpat=>by
  obtain ⟨hid,H0,ρ,ow,o,E,hf,k⟩:=zpat
  refine ⟨hid,H0,ρ,ow,o,E,?_,k⟩
  obtain ⟨d,g1,rfl⟩:=map_some hf
  show setO i ρ ((f ρ).map .list) = _
  rw [g1]
  rfl
theorem s_asg {tg:Expr} {S:PyData → Rho → Option Rho} (he:PV X O e f) (hg:PGv X O tg S) (hs:autoParam (swapsWithSole [tg] e pos.line X.env = pure false) L2.ar._auto_1) (hw:autoParam (swappedStores [tg] e X.env = pure none) L2.ar._auto_1) (h1:autoParam ((assignEach [tg] X.env).map (·.2) = [assign tg X.env]) L2.ar._auto_1) :
    PSv X O (.Assign [tg] e pos) (fun ρ=>asgO S ρ (f ρ)):=(ps_asg he hg hs hw h1).imp fun D σ H zpat=>by
  obtain ⟨hid,H0,ρ,ow,o,E,hf,k⟩:=zpat
  obtain ⟨d,g1,g2⟩:=bind_some hf
  obtain ⟨ρ',g3,rfl⟩:=map_some g2
  exact ⟨hid,H0,ρ,ow,d,E,g1,fun v H' s Dv=>⟨hid,H0,ρ,ow,d,ρ',E.mono s,Dv,g3,fun σ' E'=>k σ' H' ow (del_mono s _) E'⟩⟩
inductive FIv (K:PySem.W.Frag) (O:Ow) (hid:Addr → Prop) (H0 G1:Hp) (S:PyData → Rho → Option Rho) (F:Rho → Option Out) (ds:List PyData) (out:Out) (i m:Nat) (τ:St) (H2:Hp):Prop
  | mk (ρ2:Rho) (ow2:List Addr) (left:List PyData) (hM:Mid ds i m left) (E2:EnvOk K O hid H0 τ H2 ρ2 ow2) (s2:Same G1 (del H2 (uni hid ow2))) (hr:forD S F left ρ2 = some out):FIv K O hid H0 G1 S F ds out i m τ H2
theorem s_for {tg iter:Expr} {body:List Stmt} {fi:Rho → Option (List PyData)} {S:PyData → Rho → Option Rho} (hc:X.calm = true) (hi:PIv X O tg iter fi) (hg:PGv X O tg S) (hb:PSsv X O body F) (hp:PassesOwn (model X.prog X.w) X.A X.env X.xe)
    (hs:∀ x,foldedSetIterable iter X.env x = pure x:=by intro _; rfl):PSv X O (.For tg iter body [] pos) (fun ρ=>forO S F (fi ρ) ρ):=(ps_for hp hc hi hg hb hs).imp fun D σ H zpat=>by
  obtain ⟨hid,H0,ρ,ow,out,E,hf,k⟩:=zpat
  obtain ⟨ds,g1,g2⟩:=bind_some hf
  refine ⟨hid,H0,ρ,ow,ds,E,g1,fun J H1 s1 Gd=>?_⟩
  have k1:=k.weak (del_mono s1 (uni hid ow))
  clear k hf g1
  refine ⟨FIv X.K O hid H0 (del H1 (uni hid ow)) S F ds out,⟨ds.length,.mk ρ ow ds (.start ds) (E.mono s1) (Same.refl _) g2⟩,fun i m τ H2 zp=>?_⟩
  obtain ⟨ρ2,ow2,left,hM,E2,s2,hr⟩:=zp
  have keep:Same (del H1 (uni hid ow)) H2:=s2.trans (del_same _ _)
  cases left with
  | nil=>
    obtain rfl:=hM.fin
    rw [forD] at hr
    obtain rfl:=Option.some.inj hr
    exact .inl ⟨Gd.stop H2 keep,k1 τ H2 ow2 s2 E2⟩
  | cons d r=>
    obtain ⟨hlt,hdi,m',hm',hM'⟩:=hM.cut
    rw [forD] at hr
    obtain ⟨ρ3,g3,hr⟩:=bind_some hr
    obtain ⟨o3,g4,hr⟩:=bind_some hr
    refine .inr ⟨Gd.go H2 i keep hlt,FIv X.K O hid H0 (del H1 (uni hid ow)) S F ds out (i + 1) m',fun τ' H' z=>⟨m',hm',z⟩,fun x H3 y=>?_⟩
    refine L2.o_A (Gd.step s2 (fun p hp=>E2.fresh hp) hdi y) fun s23 Dx=>?_
    refine ⟨hid,H0,ρ2,ow2,d,ρ3,E2.mono s23,Dx,g3,fun τ3 E3=>⟨hid,H0,ρ3,ow2,o3,E3,g4,?_⟩⟩
    have s13:Same (del H1 (uni hid ow)) (del H3 (uni hid ow2)):=s2.trans (del_mono s23 _)
    cases o3 with
    | nx ρ4=>exact fun σ' H' ow' s' E'=>.mk ρ4 ow' r hM' E' (s13.trans s') hr
    | ct ρ4=>exact fun σ' H' ow' s' E'=>.mk ρ4 ow' r hM' E' (s13.trans s') hr
    | bk ρ4=>
      obtain rfl:=Option.some.inj hr
      exact fun σ' H' ow' s' E'=>k1 σ' H' ow' (s13.trans s') E'
    | rt d=>
      obtain rfl:=Option.some.inj hr
      exact k1
theorem s_while {c:Expr} {body:List Stmt} {ft:Rho → Option Bool} (μ:Rho → Nat) (hc:PTv X O c ft) (hb:PSsv X O body F) (hp:PassesOwn (model X.prog X.w) X.A X.env X.xe):PSv X O (.While c body [] pos) (fun ρ=>whileD ft F (μ ρ) ρ):=(ps_while hp hc hb).imp fun D σ H zpat=>by
  obtain ⟨hid,H0,ρ,ow,out,E,hf,k⟩:=zpat
  refine ⟨fun m τ H2=>∃ ρ2 ow2,EnvOk X.K O hid H0 τ H2 ρ2 ow2 ∧ Same (del H (uni hid ow)) (del H2 (uni hid ow2)) ∧ whileD ft F m ρ2 = some out,⟨_,ρ,ow,E,Same.refl _,hf⟩,?_⟩
  rintro m τ H2 ⟨ρ2,ow2,E2,s2,hr⟩
  cases m with
  | zero=>exact L2.no_ns hr
  | succ m=>
    rw [whileD] at hr
    obtain ⟨b,g1,hr⟩:=bind_some hr
    refine ⟨hid,H0,ρ2,ow2,b,E2,g1,fun H3 s3=>?_⟩
    have s13:Same (del H (uni hid ow)) (del H3 (uni hid ow2)):=s2.trans (del_mono s3 _)
    cases b with
    | false=>
      dsimp only
      rw [if_neg Bool.false_ne_true] at hr ⊢
      obtain rfl:=Option.some.inj hr
      exact k τ H3 ow2 s13 (E2.mono s3)
    | true=>
      dsimp only
      rw [if_pos rfl] at hr ⊢
      obtain ⟨o3,g4,hr⟩:=bind_some hr
      refine ⟨fun τ' H'=>∃ ρ2 ow2,EnvOk X.K O hid H0 τ' H' ρ2 ow2 ∧ Same (del H (uni hid ow)) (del H' (uni hid ow2)) ∧ whileD ft F m ρ2 = some out,fun τ' H' z=>⟨m,Nat.lt_succ_self m,z⟩,hid,H0,ρ2,ow2,o3,E2.mono s3,g4,?_⟩
      cases o3 with
      | nx ρ4=>exact fun σ' H' ow' s' E'=>⟨ρ4,ow',E',s13.trans s',hr⟩
      | ct ρ4=>exact fun σ' H' ow' s' E'=>⟨ρ4,ow',E',s13.trans s',hr⟩
      | bk ρ4=>
        obtain rfl:=Option.some.inj hr
        exact fun σ' H' ow' s' E'=>k σ' H' ow' (s13.trans s') E'
      | rt d=>
        obtain rfl:=Option.some.inj hr
        exact k
noncomputable def tAt (K:PySem.W.Frag) (O:Ow) (i:Nat) (T:Ty) (fp:Rho → Option (List Int)):TE:=fun σ H Q=>∃ hid H0 ρ ow d path ds,EnvOk K O hid H0 σ H ρ ow ∧ ρ[i]? = some (some d) ∧ fp ρ = some path ∧ tyP T d path = true ∧ getP d path = some ds ∧
  ∀ H1 l vs,Same H H1 → H1 l = some (.lst vs) → DenL K (del H1 (uni hid ow)) vs ds → l ∈ ow →
    (∀ H2,Same H1 H2 → ∀ ws es,DenL K (del H2 (uni hid ow)) ws es → EnvOk K O hid H0 σ (upd H2 l (.lst ws)) (ρ.set i (some (setP d path es))) ow) → Q (.ref l) H1
noncomputable abbrev PAt (X:Cx) (O:Ow) (i:Nat) (T:Ty) (e:Expr) (fp:Rho → Option (List Int)):Prop:=PE X e (tAt X.K O i T fp)
theorem at_name {i:Nat} (h:PE X e (tVar i)) (hi:autoParam (O.s.lookup i = some (.lst .cl)) L2.ar._auto_1):PAt X O i (.lst .cl) e (fun _=>some []):=h.imp fun σ H Q zpat=>by
  refine L2.o_EEEEEEEAAAAA (zpat) fun hid H0 ρ ow d path ds E hρ hp ht hg k=>?_
  obtain rfl:=Option.some.inj hp
  obtain rfl:=getP_nil hg
  refine L2.o_EEAAAA (E.at0 hi hρ) fun l vs h1 h3 h4 h5 h6=>?_
  exact ⟨.ref l,h1,k H l vs (Same.refl H) h3 h4 h5 h6⟩
noncomputable def appP (i:Nat) (T:Ty) (ρ:Rho) (path:Option (List Int)) (d:PyData):Option Out:=path.bind fun p=>((ρ[i]?).join).bind fun t=>if tyP T t p = true then (getP t p).bind fun ds=>if decide (ds.length < 1000) = true then some (.nx (ρ.set i (some (setP t p (ds ++ [d]))))) else none else none
theorem s_appendP {i:Nat} {T:Ty} {x:Expr} {fp:Rho → Option (List Int)} {apos cpos:Pos} (hx:PAt X O i T x fp) (he:PV X O e f)
    (hbase:autoParam (attributeBase x "append" X.env (eval x X.env) = eval x X.env) L2.ar._auto_1)
    (hfew:autoParam (((backTo cpos (starEach [e] X.env)).all (fun x=>!x.1) && (backToKw cpos (keywordEach [] X.env)).all (fun x=>x.1.isSome) && decide ([e].length + ([]:List Keyword).length + (if ([]:List Keyword).isEmpty then 0 else 1) < 30)) = true) L2.ar._auto_1)
    (hline:autoParam ((apos.endLine == cpos.line) = true) L2.ar._auto_1) (hst:autoParam (starEach [e] X.env = (false,eval e X.env) :: starEach [] X.env) L2.ar._auto_1) (hplain:autoParam ((backTo cpos (starEach [] X.env)).any (·.1) = false) L2.ar._auto_1)
    (hs:autoParam (swapsWith (.Call (.Attribute x "append" apos) [e] [] cpos) none pos.line X.env = pure false) L2.ar._auto_1) :
    PSv X O (.Expr (.Call (.Attribute x "append" apos) [e] [] cpos) pos) (fun ρ=>(f ρ).bind (appP i T ρ (fp ρ))):=
  (ps_expr (pe_bm PySem.F.plainAttrs_list PySem.F.slot_list_append PySem.F.type_list_append mt_append hx (pa_cons he pa_nil hst) hbase hfew hline hst hplain) hs).imp fun D σ H zpat=>by
    obtain ⟨hid,H0,ρ,ow,o,E,hf,k⟩:=zpat
    obtain ⟨d,g1,g2⟩:=bind_some hf
    obtain ⟨path,g3,g4⟩:=bind_some g2
    obtain ⟨t,g5,g6⟩:=bind_some g4
    split at g6
    case isFalse=>cases g6
    rename_i hty
    obtain ⟨ds,g7,g8⟩:=bind_some g6
    split at g8
    case isFalse=>cases g8
    rename_i hlt
    obtain rfl:=Option.some.inj g8
    refine L2.i_EEEEEEEAAAAA (hid) (H0) (ρ) (ow) (t) (path) (ds) (E) (join_some g5) (g3) (hty) (g7) (fun H1 l vs s1 hH hD hl hE=>⟨.inl ⟨rfl,vs,SqL.of hH⟩,hid,H0,ρ,ow,d,E.mono s1,g1,fun v H2 s2 Dv=>?_⟩)
    have hz:1000 < sizeLine:=by decide
    have hlt':=of_decide_eq_true hlt
    refine L2.i_EEEAAAA (l) (vs) (v) (rfl) (rfl) (s2 _ _ hH) (by rw [hD.length]; (clear g6 g4 hlt g5 hfew; omega)) (k _ _ ow ?_ (hE H2 s2 _ _ ((hD.mono (del_mono s2 _)).append (.cons Dv .nil))))
    rw [del_upd (uni_in hl)]
    exact (del_mono s1 _).trans (del_mono s2 _)
noncomputable def appD (i:Nat) (ρ:Rho) (d:PyData):Option Out:=((ρ[i]?).join.bind listD).bind fun ds=>if decide (ds.length < 1000) = true then some (.nx (ρ.set i (some (.list (ds ++ [d]))))) else none
theorem s_append {i:Nat} {x:Str} {p apos cpos:Pos} (hx:PE X (.Name x p) (tVar i)) (he:PV X O e f) (hO:autoParam (O.s.lookup i = some (.lst .cl)) L2.ar._auto_1)
    (hbase:autoParam (attributeBase (.Name x p) "append" X.env (eval (.Name x p) X.env) = eval (.Name x p) X.env) L2.ar._auto_1)
    (hfew:autoParam (((backTo cpos (starEach [e] X.env)).all (fun x=>!x.1) && (backToKw cpos (keywordEach [] X.env)).all (fun x=>x.1.isSome) && decide ([e].length + ([]:List Keyword).length + (if ([]:List Keyword).isEmpty then 0 else 1) < 30)) = true) L2.ar._auto_1)
    (hline:autoParam ((apos.endLine == cpos.line) = true) L2.ar._auto_1) (hst:autoParam (starEach [e] X.env = (false,eval e X.env) :: starEach [] X.env) L2.ar._auto_1) (hplain:autoParam ((backTo cpos (starEach [] X.env)).any (·.1) = false) L2.ar._auto_1)
    (hs:autoParam (swapsWith (.Call (.Attribute (.Name x p) "append" apos) [e] [] cpos) none pos.line X.env = pure false) L2.ar._auto_1) :
    PSv X O (.Expr (.Call (.Attribute (.Name x p) "append" apos) [e] [] cpos) pos) (fun ρ=>(f ρ).bind (appD i ρ)):=
  (s_appendP (at_name hx hO) he hbase hfew hline hst hplain hs).imp fun D σ H zpat=>by
    obtain ⟨hid,H0,ρ,ow,o,E,hf,k⟩:=zpat
    refine ⟨hid,H0,ρ,ow,o,E,?_,k⟩
    obtain ⟨d,g1,g2⟩:=bind_some hf
    obtain ⟨ds,g3,g4⟩:=bind_some g2
    obtain ⟨dl,g5,g6⟩:=bind_some g3
    rw [listD_some g6] at g5
    try dsimp only
    rw [g1,Option.bind_some]
    unfold appP
    rw [Option.bind_some,g5,Option.bind_some]
    exact g4
end
theorem lookTy_mem:∀ {l:List (Nat × Ty)} {i:Nat} {t:Ty},l.lookup i = some t → i ∈ l.map (·.1)
  | [],_,_,h=>by cases h
  | (j,u) :: r,i,t,h=>by
    rw [List.lookup_cons] at h
    by_cases hj:(i == j) = true
    · rw [beq_iff_eq] at hj; subst hj; exact List.mem_cons_self
    · rw [Bool.not_eq_true] at hj
      rw [hj] at h
      exact List.mem_cons_of_mem _ (lookTy_mem h)
noncomputable def CdOk (K:PySem.W.Frag) (f:Addr) (cdv:Value):Prop:=∃ oc od fd osl,K.lookup f = some ⟨oc,od,.func fd,osl⟩ ∧ fd.code = cdv
theorem fn_okC {P:Program} {w:World} {K:PySem.W.Frag} {mg:Str → Option Value} {base:Heap} {x qual:Str} {st:Stmt} {f:Addr} {fd:FuncData} {N ps:List Str} {k:Nat} {sp:Sp} (F:Fun K x qual st f fd) (S:FnScope N ps (defScope st)) (len:∀ vs H Q E,sp vs H Q E → vs.length = ps.length)
    (body:∀ cdv,CdOk K f cdv → ∀ A outer s H vs Q E,Room k (A.deeper (envOfC qual (defScope st) s.heap.objs.size f cdv)) → sp vs H Q E → ∃ t,PSs (cxOf CX0 P w K mg base N qual (defScope st) f cdv A outer s H E).nox (defBody st) t ∧ t { nx:=fun _ H'=>Q .non H',rt:=Q } (start N vs) H):FnOk P w K mg base CX0 (k + 1) f fd ps sp:=by
  refine L2.o_EEEEEEEEEAA (F.ex) fun a1 a2 a3 a4 a5 a6 cdv a7 a8 e lk hc=>?_
  subst e
  exact fn_of lk hc S len fun A outer s H vs Q E hr hs=>by
    refine L2.o_EA (body cdv ⟨_,_,_,_,lk,rfl⟩ A outer s H vs Q E hr hs) fun t h1 h2=>?_
    exact ⟨t,h1.nox,h2⟩
theorem start_get {K:PySem.W.Frag} {H:Hp} {hid:Addr → Prop} {N:List Str} {vs:List V} {ds:List PyData} (D:DenL K (del H hid) vs ds) {i:Nat} {d:PyData} (e:(ds.map some ++ List.replicate (N.length - ds.length) none)[i]? = some (some d)):i < ds.length ∧ ∃ v,(start N vs)[i]? = some (some v) ∧ Den K (del H hid) v d:=by
  by_cases hi:i < ds.length
  · rw [List.getElem?_append_left (by rw [List.length_map]; exact hi),List.getElem?_map] at e
    obtain ⟨d',q,e⟩:=Option.map_eq_some_iff.mp e
    obtain rfl:=Option.some.inj e
    refine L2.o_EA (D.get q) fun v h1 h2=>?_
    refine ⟨hi,v,?_,h2⟩
    unfold start
    rw [List.getElem?_append_left (by rw [List.length_map,D.length]; exact hi),List.getElem?_map,h1]
    rfl
  · rw [List.getElem?_append_right (by rw [List.length_map]; exact Nat.le_of_not_lt hi),List.getElem?_replicate] at e
    split at e <;> cases e
theorem start_env {K:PySem.W.Frag} {O:Ow} {H:Hp} {hid:Addr → Prop} {N:List Str} {vs:List V} {ds:List PyData} {n:Nat} (D:DenL K (del H hid) vs ds) (hn:ds.length = n) (hO:∀ i ∈ O.s.map (·.1),n ≤ i) (hh:∀ b,hid b → ∃ vs:OwO,H b = some vs.ho):EnvOk K O hid H (start N vs) H (ds.map some ++ List.replicate (N.length - ds.length) none) []:=by
  refine ⟨by unfold start; rw [List.length_append,List.length_append,List.length_map,List.length_map,List.length_replicate,List.length_replicate,D.length],fun b o e=>by rw [del_out List.not_mem_nil]; exact e,fun i d hi e=>?_,⟨fun _=>[],fun i t d hi e=>?_,fun i j p _ z=>absurd z List.not_mem_nil,fun i p z=>absurd z List.not_mem_nil⟩,fun l z=>absurd z List.not_mem_nil,hh,fun _=>rfl⟩
  · refine L2.o_AEA (start_get D e) fun _ v h1 h2=>?_
    exact ⟨v,h1,by rw [uni_nil]; exact h2⟩
  · exact absurd (hn ▸ (start_get D e).1) (Nat.not_lt.mpr (hO i (lookTy_mem hi)))
theorem fn_pure {P:Program} {w:World} {K:PySem.W.Frag} {mg:Str → Option Value} {base:Heap} {x qual:Str} {st:Stmt} {f:Addr} {fd:FuncData} {N ps:List Str} {k:Nat} {Fs:List PyData → Option PyData} (O:Ow) (F:Fun K x qual st f fd) (S:FnScope N ps (defScope st))
    (hl:∀ ds r,Fs ds = some r → ds.length = ps.length)
    (hO:∀ i ∈ O.s.map (·.1),ps.length ≤ i) (B:Rho → Option Out)
    (hbody:∀ (cdv:Value),CdOk K f cdv → ∀ (A:Around) (outer:List Env) (s:Shared) (H:Hp) (E:XK),Room k (A.deeper (envOfC qual (defScope st) s.heap.objs.size f cdv)) →
      PSsv (cxOf CX0 P w K mg base N qual (defScope st) f cdv A outer s H E).nox O (defBody st) B)
    (hs:∀ ds r,Fs ds = some r → B (ds.map some ++ List.replicate (N.length - ds.length) none) = some (.rt r) ∨ (r = .none ∧ ∃ ρ,B (ds.map some ++ List.replicate (N.length - ds.length) none) = some (.nx ρ))) :
    FnOk P w K mg base CX0 (k + 1) f fd ps (spR K O.r Fs):=by
  refine fn_okC F S (fun vs H Q E h=>?_) (fun cdv hk A outer s H vs Q E hr h=>?_)
  · refine L2.o_EEEAAA (h) fun hid ds r _ D hf _=>?_
    rw [D.length]
    exact hl ds r hf
  · refine L2.o_EEEAAA (h) fun hid ds r hh D hf q=>?_
    refine ⟨_,hbody cdv hk A outer s H E hr,?_⟩
    have hdl:=D.length
    have hpl:=hl ds r hf
    have E0:EnvOk K O hid H (start N vs) H (ds.map some ++ List.replicate (N.length - ds.length) none) []:=start_env D hpl hO hh
    rcases hs ds r hf with h | ⟨rfl,ρ,h⟩
    · exact ⟨hid,H,_,[],_,E0,h,fun v as H' s' n Dv=>q v as H' s' n Dv⟩
    · exact ⟨hid,H,_,[],_,E0,h,fun σ' H' ow' s' E'=>q .non [] H' E'.baseS (fun p hp=>by cases hp) .non⟩
end L2
namespace L2
open PySem PySem.Spec PyProof.Rows
variable [Reg]
noncomputable def Ite (K:PySem.W.Frag) (a:Addr):It:=
  ⟨fun i H=>∃ xs x,SqL K H a xs ∧ xs[i]? = some x,fun i H x H'=>∃ p v,H p = none ∧ H' = upd H p (.tup [.int i,v]) ∧ x = .ref p ∧ ∀ xs,SqL K H a xs → xs[i]? = some v,fun i H=>∃ xs,SqL K H a xs ∧ xs.length ≤ i⟩
theorem turn_enum {P:Program} {w:World} {K:PySem.W.Frag} {es:List Expr} {x1} {tpos:Pos} (a e it:Addr) (hne:e ≠ it):Turn P w K (.Tuple es x1 tpos) (Ite K a) [e,it] e (fun i h=>(∃ old,IsEnum h e it ((i:Nat):Int) old) ∧ h.IsListIter it a i) where
  mem:=by simp
  obj:=fun i h st b hb=>by
    obtain ⟨⟨old,h1⟩,o,e2,c,d⟩:=st
    rcases List.mem_cons.mp hb with rfl | hb
    · exact ⟨_,h1,fun v z=>by cases (show Data.fields _ = Data.cell v from z)⟩
    · have:b = it:=by simpa using hb
      subst this
      exact ⟨o,e2,fun v z=>by rw [d] at z; cases z⟩
  keep:=fun i h h' st k=>by
    obtain ⟨⟨old,h1⟩,h2⟩:=st
    exact ⟨⟨old,k e (by simp) _ h1⟩,h2.at fun o q=>k it (by simp) o q⟩
  item:=by
    intro X hP hw hK hc i pins s σ H E I hf st hg
    subst hP hw hK
    refine L2.o_EEA (hg) fun xs x hq hx=>?_
    refine L2.o_EAA (I.list hq) fun its rv p hz=>?_
    refine L2.o_EA (rv.get hx) fun u hu ru=>?_
    obtain ⟨⟨old,h1⟩,h2⟩:=st
    refine L2.o_AAAAA (hf e (by simp)) fun f0 f1 f2 f3 f4 f5=>?_
    refine L2.o_AAAAA (hf it (by simp)) fun g0 g1 g2 g3 g4 g5=>?_
    have he:e < s.heap.objs.size:=Heap.lt_size h1
    have hi:it < s.heap.objs.size:=by obtain ⟨o,q,_⟩:=id h2; exact Heap.lt_size q
    refine wpAny_pyNext_enum_item h1 h2 p.isList (x:=u) (by simpa using hu) hne fun h' ho hit' hT hsz hk=>?_
    refine ⟨_,rfl,wpAny_letOwnedTupleGo_enum (s:={ s with heap:=h',toks:=s.toks + 1 }) ho fun h3 he3 hs3=>?_⟩
    have hs3':Heap.SameBut e h' h3:=hs3
    have hT3:h3.get? s.heap.objs.size = some { cls:=.type "tuple",data:=.seq #[.int i s.toks,u] }:=(hs3'.2 _ (Nat.ne_of_gt he)).trans hT
    have hk3:∀ b o,b ∉ [e,it] → s.heap.get? b = some o → h3.get? b = some o:=fun b o hb q=>(hs3'.2 b (fun z=>hb (by simp [z]))).trans (hk b o (fun z=>hb (by simp [z])) (fun z=>hb (by simp [z])) q)
    have hfr:H s.heap.objs.size = none:=I.hok.fresh (Nat.le_refl _)
    have nin:∀ b o,H b = some o → b ∉ [e,it]:=fun b o q hb=>by
      rcases List.mem_cons.mp hb with z | hb
      · rw [z,f0] at q; cases q
      · have z:b = it:=by simpa using hb
        rw [z,g0] at q; cases q
    have I3:Inv X pins σ (upd H s.heap.objs.size (.tup [.int i,x])) { s with heap:=h3,toks:=s.toks + 1 }:=by
      refine I.step (g':=s.gens) (d':=s.drawn) (ch:=[e,it]) (fun b hb=>?_) (fun b o _ _ hb q _=>hk3 b o hb q) (fun b o _ _ hb q _=>⟨o.slots,hk3 b o hb q⟩) (fun b o hb q n=>?_) (fun b o hb q=>⟨o,hk3 b o hb q⟩)
        (fun b ys q=>by rw [upd_ne (ne_of_none q hfr)]; exact q) (fun b o ys q=>by rw [upd_ne (ne_of_none q hfr)]; exact q) (fun b ps q=>⟨#[],by rw [upd_ne (ne_of_none q hfr),q]; simp⟩) (fun b q=>by rw [upd_ne (ne_of_none q hfr)]; exact q) (fun m hm=>?_) (fun b o q=>?_) I.bare
      · rcases List.mem_cons.mp hb with rfl | hb
        · exact ⟨f3,f1,f4,f5⟩
        · have z:b = it:=by simpa using hb
          subst z
          exact ⟨g3,g1,g4,g5⟩
      · rw [upd_ne (Nat.ne_of_lt (Heap.lt_size q))]
        exact n
      · refine L2.o_EEEA (hm) fun o es' ep ho' r=>?_
        exact L2.i_EEEA (o) (es') (ep) (hk3 _ o (by simp [Ne.symm f1,Ne.symm g1]) ho') (r)
      · by_cases hb:b = s.heap.objs.size
        · subst hb
          rw [upd_same] at q
          obtain rfl:=Option.some.inj q
          exact ⟨(by show 2 ≤ sizeLine; decide),[.int i s.toks,u],.cons ⟨_,rfl⟩ (.cons ru .nil),⟨_,hT3,rfl,_,rfl⟩⟩
        · rw [upd_ne hb] at q
          refine (I.hok b o q).stay (fun c v hc q'=>hk3 c v ?_ q') (fun c q'=>by rw [upd_ne (ne_of_none q' hfr)]; exact q') (fun c ys q'=>by rw [upd_ne (ne_of_none q' hfr)]; exact q') fun c ob ys _ _ q'=>by rw [upd_ne (ne_of_none q' hfr)]; exact q'
          rcases hc with hc | hc
          · rw [hc]; exact nin b o q
          · exact nin c _ hc
    refine L2.i_EEAAAA (.ref s.heap.objs.size) (_) (I3) (rfl) (⟨_,x,hfr,rfl,rfl,fun ys hy=>by rw [I.list_inj hy hq]; exact hx⟩) (⟨⟨u,?_⟩,hit'.at fun o q=>(hs3'.2 it (Ne.symm hne)).trans q⟩) (fun b hb=>?_)
    · have:((i + 1:Nat):Int) = (i:Int) + 1:=by push_cast; rfl
      rw [this]
      exact he3
    · rcases List.mem_cons.mp hb with rfl | hb
      · rw [upd_ne (Nat.ne_of_lt he)]; exact f0
      · have z:b = it:=by simpa using hb
        subst z
        rw [upd_ne (Nat.ne_of_lt hi)]; exact g0
  done:=by
    intro X hP hw hK hc i pins s σ H E I hf st hg
    subst hP hw hK
    refine L2.o_EA (hg) fun xs hq hx=>?_
    refine L2.o_EAA (I.list hq) fun its rv p hz=>?_
    obtain ⟨⟨old,h1⟩,h2⟩:=st
    refine L2.o_AAAAA (hf it (by simp)) fun g0 g1 g2 g3 g4 g5=>?_
    have hl:=rv.length
    exact wpAny_pyNext_enum_end (I.ok.hd hc) h1 h2 p.isList (by simp; (clear g3 hz; omega)) fun h' eb=>⟨rfl,I.turned (t':=s.toks) (fun b o hb q=>eb b o hb q) g0 g1 g3 g4 g5⟩
  self:=fun _ _ _ _ _ st h=>wpAny_pyIter_enum st.1.choose_spec h
noncomputable def iEnum (K:PySem.W.Frag) (tl:TE):TI:=fun σ H R=>tl σ H fun x H1=>∃ a,x = .ref a ∧ (∃ xs,SqL K H1 a xs) ∧ R (Ite K a) H1
theorem pi_enum {X:Cx} {es:List Expr} {x1} {tpos p pos:Pos} {l:Expr} {tl:TE} (hg:Gl X "enumerate") (hm:X.mg "enumerate" = none) (hl:PE X l tl) (hs:autoParam (starEach [l] X.env = [(false,eval l X.env)]) L2.ar._auto_1) :
    PI X (.Tuple es x1 tpos) (.Call (.Name "enumerate" p) [l] [] pos) (iEnum X.K tl):=by
  intro pins s σ H R I h
  have ha:=pa_cons (X:=X) hl pa_nil hs
  refine Call_ (ld_blt I hg hm PyProof.Rows.boot_enumerate (PyProof.Rows.callWith_type1 (thn (ha pos pins s σ H (fun vs H1=>∃ a,vs = [.ref a] ∧ (∃ xs,SqL X.K H1 a xs) ∧ R (Ite X.K a) H1) I ?_) fun us s1 ⟨vs,H1,I1,r1,q1⟩=>?_) hs rfl))
  · have mono:∀ (Q Q':VK),True:=fun _ _=>True.intro
    show tl σ H fun x H1=>∃ a,[x] = [.ref a] ∧ (∃ xs,SqL X.K H1 a xs) ∧ R (Ite X.K a) H1
    have e:(fun (x:V) (H1:Hp)=>∃ a,[x] = [V.ref a] ∧ (∃ xs,SqL X.K H1 a xs) ∧ R (Ite X.K a) H1) = fun x H1=>∃ a,x = .ref a ∧ (∃ xs,SqL X.K H1 a xs) ∧ R (Ite X.K a) H1:=by
      funext x H1
      simp
    rw [e]
    exact h
  · obtain ⟨a,rfl,⟨xs,hq⟩,q⟩:=q1
    refine L2.o_EA (r1.one) fun u zq1 ru=>?_
    subst zq1
    cases ru
    refine L2.o_EAA (I1.list hq) fun its rv pl hz=>?_
    refine call_enumerate_list pl.isList fun h' he hit hsz hk=>?_
    refine wpAny_pyIter_enum he ?_
    have I2:Inv X pins σ H1 { s1 with heap:=h' }:=I1.kept (t':=s1.toks) hk
    refine L2.i_EEEEEAAAAA (s1.heap.objs.size + 1) ([s1.heap.objs.size + 1,s1.heap.objs.size]) (_) (_) (H1) (rfl) (I2) (turn_enum a _ _ (Nat.succ_ne_self _)) (⟨⟨_,he⟩,hit⟩) (fun b hb=>?_) (q)
    have hb':s1.heap.objs.size ≤ b:=by
      rcases List.mem_cons.mp hb with rfl | hb
      · exact Nat.le_succ _
      · have:b = s1.heap.objs.size:=by simpa using hb
        rw [this]
        exact Nat.le_refl _
    exact I1.fpOk hb' (I1.hok.fresh hb')
noncomputable def enumL (ds:List PyData):List PyData:=(List.range ds.length).zipWith (fun i d=>.tuple [.int (i:Nat),d]) ds
theorem enumL_get {ds:List PyData} {i:Nat} {d:PyData} (h:(enumL ds)[i]? = some d):∃ e,ds[i]? = some e ∧ d = .tuple [.int (i:Nat),e]:=by
  unfold enumL at h
  rw [List.getElem?_zipWith] at h
  cases q:ds[i]? with
  | none=>rw [q] at h; cases z:(List.range ds.length)[i]? <;> rw [z] at h <;> cases h
  | some e=>
    have hl:=(List.getElem?_eq_some_iff.mp q).1
    rw [q,List.getElem?_range hl] at h
    exact ⟨e,rfl,(Option.some.inj h).symm⟩
theorem enumL_len (ds:List PyData):(enumL ds).length = ds.length:=by simp [enumL]
theorem good_enum {K:PySem.W.Frag} {G:Hp} {a:Addr} {xs:List V} {ds:List PyData} (q:SqL K G a xs) (r:DenL K G xs ds):GoodIt K (Ite K a) G (enumL ds) where
  go:=fun H2 i s h=>by
    rw [enumL_len] at h
    have hl:i < xs.length:=by rw [r.length]; exact h
    exact L2.i_EEA (xs) (xs[i]) (s.seq q) (by simp [hl])
  yld:=fun H2 i x H3 d s h y=>by
    refine L2.o_EA (enumL_get h) fun e h1 zq2=>?_
    subst zq2
    revert y
    refine fun zqq=>L2.o_EEAAA zqq fun p v hp zq3 zq4 y=>?_
    clear zqq
    subst zq3
    subst zq4
    refine L2.o_EA (r.get h1) fun v' h2 h3=>?_
    have:=y xs (s.seq q)
    rw [h2] at this
    obtain rfl:=Option.some.inj this
    exact .inr ⟨p,_,_,hp,rfl,rfl,rfl,.cons (.int _) (.cons h3 .nil)⟩
  stop:=fun H2 s=>⟨xs,s.seq q,by rw [r.length,enumL_len]; exact Nat.le_refl _⟩
theorem iv_enum {X:Cx} {O:Ow} {es:List Expr} {x1} {tpos p pos:Pos} {e:Expr} {f:Rho → Option PyData} (hg:Gl X "enumerate") (hm:X.mg "enumerate" = none) (h:PV X O e f) (hs:autoParam (starEach [e] X.env = [(false,eval e X.env)]) L2.ar._auto_1) :
    PIv X O (.Tuple es x1 tpos) (.Call (.Name "enumerate" p) [e] [] pos) (fun ρ=>((f ρ).bind listD).map enumL):=(pi_enum hg hm h hs).imp fun σ H R zpat=>by
  obtain ⟨hid,H0,ρ,ow,ds,E,hf,k⟩:=zpat
  obtain ⟨ds',g1,rfl⟩:=map_some hf
  obtain ⟨d,h1,h2⟩:=bind_some g1
  rw [listD_some h2] at h1
  refine ⟨hid,H0,ρ,ow,_,E,h1,fun v H' s D=>?_⟩
  obtain ⟨a,xs,rfl,q,r⟩:=den_lst D
  exact ⟨a,rfl,⟨xs,(del_same _ _).seq q⟩,k _ H' s (good_enum q r)⟩
end L2
namespace L2
open PySem PySem.Spec PyProof.Rows
variable [Reg]
section
variable {X:Cx} {O:Ow} {i:Nat} {x:Str} {pos' spos:Pos} {elt tg iter:Expr} {ifs:List Expr} {scope:Scope} {pos:Pos} {fi:Rho → Option (List PyData)} {S:PyData → Rho → Option Rho} {ft:Rho → Option Bool} {fe:Rho → Option PyData} {k:Nat} {N:List Str} {ix:List Nat}
theorem s_asgT {st:Stmt} {T:Ty} {f:Rho → Option PyData} (h:PS X st (tAsg (tFt X.K O T f) (gName i))) (hO:O.s.lookup i = some T ∨ (O.s.lookup i = none ∧ T = .cl)):PSv X O st (fun ρ=>setO i ρ (f ρ)):=h.imp fun D σ H zpat=>by
  obtain ⟨hid,H0,ρ,ow,o,E,hf,k⟩:=zpat
  obtain ⟨d,g1,rfl⟩:=map_some hf
  rcases hO with hO | ⟨hO,rfl⟩
  · refine ⟨hid,H0,ρ,ow,d,E,g1,fun v as H' s n Dv=>k _ H' (as ++ ow) ?_ (E.setT s hO n Dv)⟩
    intro b u z
    by_cases hb:uni hid ow b
    · rw [del_in hb] at z; cases z
    · rw [del_out hb] at z
      rw [del_out fun y=>?_]
      · exact s b u z
      · rcases y with y | y
        · exact hb (.inl y)
        · rcases List.mem_append.mp y with y | y
          · rw [n b y] at z; cases z
          · exact hb (.inr y)
  · refine ⟨hid,H0,ρ,ow,d,E,g1,fun v as H' s n Dv=>k _ H' ow (del_mono s _) ((E.mono s).set hO (Dv.den.mono (del_sub (uni_mono fun p hp=>List.mem_append_right _ hp))))⟩
end
section
variable {X:Cx} {O:Ow} {i:Nat} {e a:Expr} {f fa:Rho → Option PyData} {pos p:Pos}
noncomputable def tO (K:PySem.W.Frag) (O:Ow) (f:Rho → Option (Option Int)):TO:=fun σ H Q=>At5 K O f σ H fun hid H0 ρ ow o=>∀ H',Same H H' → Q o H'
noncomputable abbrev POv (X:Cx) (O:Ow) (e:Option Expr) (f:Rho → Option (Option Int)):Prop:=PO X e (tO X.K O f)
theorem PO.imp {e:Option Expr} {t t':TO} (h:PO X e t) (hi:∀ σ H Q,t' σ H Q → t σ H Q):PO X e t':=fun pins s σ H Q I q=>h pins s σ H Q I (hi σ H Q q)
theorem o_none:POv X O none (fun _=>some none):=PO.imp po_none fun σ H Q ⟨hid,H0,ρ,ow,o,E,hf,k⟩=>by cases hf; exact k H (Same.refl H)
theorem o_some (h:PR X O e f):POv X O (some e) (fun ρ=>((f ρ).bind intO).map some):=PO.imp (po_some h) fun σ H Q zpat=>by
  obtain ⟨hid,H0,ρ,ow,o,E,hf,k⟩:=zpat
  obtain ⟨i,g1,rfl⟩:=map_some hf
  obtain ⟨d,g2,g3⟩:=bind_some g1
  rw [intO_some g3] at g2
  exact ⟨hid,H0,ρ,ow,_,E,g2,fun v H' s D=>⟨i,den_int D,k H' s⟩⟩
noncomputable def cutL (ds:List PyData) (lo hi:Option Int):List PyData:=(ds.drop (HT.sIx ds.length 0 lo)).take (HT.sIx ds.length ds.length hi - HT.sIx ds.length 0 lo)
noncomputable def cutD (x:Option PyData) (lo hi:Option (Option Int)):Option (List PyData):=(x.bind listD).bind fun ds=>lo.bind fun l=>hi.map fun h=>cutL ds l h
theorem fr_slice {lo hi:Option Expr} {fl fh:Rho → Option (Option Int)} {p2:Pos} (ha:PR X O a fa) (hl:POv X O lo fl) (hh:POv X O hi fh):PFr X O (.Subscript a (.Slice lo hi none p2) pos) (fun ρ=>cutD (fa ρ) (fl ρ) (fh ρ)):=(pe_slice sl_list ha hl hh).imp fun σ H Q zpat=>by
  obtain ⟨hid,H0,ρ,ow,ds,E,hf,k⟩:=zpat
  obtain ⟨es,g1,g2⟩:=bind_some hf
  obtain ⟨d,g3,g4⟩:=bind_some g1
  rw [listD_some g4] at g3
  obtain ⟨l,g5,g6⟩:=bind_some g2
  obtain ⟨h,g7,rfl⟩:=map_some g6
  refine ⟨hid,H0,ρ,ow,_,E,g3,fun x H1 s1 D1=>⟨hid,H0,ρ,ow,l,E.mono s1,g5,fun H2 s2=>⟨hid,H0,ρ,ow,h,(E.mono s1).mono s2,g7,fun H3 s3=>?_⟩⟩⟩
  obtain ⟨q,vs,rfl,q1,r1⟩:=den_lst D1
  have s23:=s2.trans s3
  refine L2.i_EEAA (q) (vs) (rfl) (s23.seq ((del_same _ _).seq q1)) (fun n hn=>k n _ _ ((s1.trans s23).trans (same_new hn)) ((s1.trans s23).free hn) upd_same ?_)
  unfold cutV cutL
  rw [r1.length]
  exact (((r1.mono (del_mono s23 _)).drop _).take _).mono (del_new (same_new hn) hn fun b z=>by rcases z with z | z; exact .inl z; exact .inr (by simpa using z))
noncomputable def intsO:List PyData → Option (List Int)
  | []=>some []
  | .int i :: r=>(intsO r).map (i :: ·)
  | _ :: _=>none
theorem intsO_map:∀ (ns:List Int),intsO (ns.map .int) = some ns
  | []=>rfl
  | n :: r=>by rw [List.map_cons,intsO,intsO_map r]; rfl
theorem intsO_some:∀ {ds:List PyData} {ns:List Int},intsO ds = some ns → ds = ns.map .int
  | [],ns,h=>by cases h; rfl
  | d :: r,ns,h=>by
    cases d with
    | int i=>
      rw [intsO] at h
      obtain ⟨ms,h1,rfl⟩:=map_some h
      rw [List.map_cons,← intsO_some h1]
    | _=>exact L2.no_ns h
theorem DenL.isInts {K:PySem.W.Frag} {H:Hp}:∀ {vs:List V} {ns:List Int},DenL K H vs (ns.map .int) → vs = ns.map .int
  | _,[],h=>denl_nil h
  | vs,n :: r,h=>by
    refine L2.o_EEAA (denl_cons h) fun v ws zq2 h1 h2=>?_
    subst zq2
    rw [den_int h1,DenL.isInts h2]
    rfl
theorem DenL.rev {K:PySem.W.Frag} {H:Hp}:∀ {vs:List V} {ds:List PyData},DenL K H vs ds → DenL K H vs.reverse ds.reverse
  | _,_,.nil=>.nil
  | _,_,.cons h r=>by
    rw [List.reverse_cons,List.reverse_cons]
    exact (DenL.rev r).append (.cons h .nil)
theorem vals_rev:∀ {vs:List V} {us:List Value},Vals vs us → Vals vs.reverse us.reverse:=fun r=>r.reverse
noncomputable def revD:PyData → Option (List PyData)
  | .list ds=>some ds.reverse
  | _=>none
noncomputable def isNoneD (d e:PyData):Option PyData:=match e with
  | .none=>some (.bool (match d with | .none=>true | _=>false))
  | _=>none
theorem op_is:OpR X (compareOp .Is) (fun x y H Q=>∃ d,Den X.K H x d ∧ y = .non ∧ Q (.bl (match d with | .none=>true | _=>false)) H):=by
  intro pins s σ H x y v u Q I rx ry h
  revert h
  refine fun zqq=>L2.o_EAA zqq fun d D zq2 q=>?_
  clear zqq
  subst zq2
  cases ry
  cases D with
  | non=>cases rx; exact wpAny_is_self rfl ⟨.bl _,H,I,rfl,q⟩
  | bl b=>cases rx; exact wpAny_is_other rfl (fun z=>by cases z) ⟨.bl _,H,I,rfl,q⟩
  | int i=>obtain ⟨t,rfl⟩:=rx; exact wpAny_is_other rfl (fun z=>by cases z) ⟨.bl _,H,I,rfl,q⟩
  | str i=>obtain ⟨t,rfl⟩:=rx; exact wpAny_is_other rfl (fun z=>by cases z) ⟨.bl _,H,I,rfl,q⟩
  | tup _ _=>cases rx; exact wpAny_is_other rfl (fun z=>by cases z) ⟨.bl _,H,I,rfl,q⟩
  | lst _ _=>cases rx; exact wpAny_is_other rfl (fun z=>by cases z) ⟨.bl _,H,I,rfl,q⟩
  | fn _ _=>cases rx; exact wpAny_is_other rfl (fun z=>by cases z) ⟨.bl _,H,I,rfl,q⟩
  | exc _ _=>cases rx; exact wpAny_is_other rfl (fun z=>by cases z) ⟨.bl _,H,I,rfl,q⟩
  | obj _ _=>cases rx; exact wpAny_is_other rfl (fun z=>by cases z) ⟨.bl _,H,I,rfl,q⟩
theorem den_non {K:PySem.W.Frag} {H:Hp} {v:V} (h:Den K H v .none):v = .non:=by cases h; rfl
theorem c_is:CmpD X .Is isNoneD:=⟨_,op_is,fun x y H d e r Q D1 D2 q k=>by
  unfold isNoneD at q
  split at q
  · cases q; exact ⟨d,D1,den_non D2,k _ (.bl _)⟩
  · cases q⟩
end
end L2
namespace L2
open PySem PySem.Spec PyProof.Rows
variable [Reg]
theorem bt_len:bootBuiltins "len" = some (.builtin "len"):=by decide +kernel
theorem bt_abs:bootBuiltins "abs" = some (.builtin "abs"):=by decide +kernel
theorem bt_max:bootBuiltins "max" = some (.builtin "max"):=by decide +kernel
theorem bt_min:bootBuiltins "min" = some (.builtin "min"):=by decide +kernel
theorem bt_int:bootBuiltins "int" = some (.type "int"):=by decide +kernel
noncomputable def outD:Option Out → Option PyData
  | some (.rt r)=>some r
  | some (.nx _)=>some .none
  | _=>none
noncomputable def runD (n m:Nat) (B:Rho → Option Out) (ds:List PyData):Option PyData:=if ds.length = n then outD (B (ds.map some ++ List.replicate m none)) else none
theorem runD_some {n m:Nat} {B:Rho → Option Out} {ds:List PyData} {r:PyData} (h:runD n m B ds = some r):ds.length = n ∧ outD (B (ds.map some ++ List.replicate m none)) = some r:=by
  unfold runD at h
  split at h
  · exact ⟨by assumption,h⟩
  · exact L2.no_ns h
theorem fn_auto {P:Program} {w:World} {K:PySem.W.Frag} {mg:Str → Option Value} {base:Heap} {x qual:Str} {st:Stmt} {f:Addr} {fd:FuncData} {N ps:List Str} {k:Nat} (O:Ow) (F:Fun K x qual st f fd) (S:FnScope N ps (defScope st))
    (hO:∀ i ∈ O.s.map (·.1),ps.length ≤ i) (B:Rho → Option Out)
    (hbody:∀ (cdv:Value),CdOk K f cdv → ∀ (A:Around) (outer:List Env) (s:Shared) (H:Hp) (E:XK),Room k (A.deeper (envOfC qual (defScope st) s.heap.objs.size f cdv)) →
      PSsv (cxOf CX0 P w K mg base N qual (defScope st) f cdv A outer s H E).nox O (defBody st) B) :
    FnOk P w K mg base CX0 (k + 1) f fd ps (spR K O.r (runD ps.length (N.length - ps.length) B)):=by
  refine fn_pure O F S (fun ds r h=>(runD_some h).1) hO B hbody fun ds r h=>?_
  refine L2.o_A (runD_some h) fun h1 h2=>?_
  rw [h1]
  unfold outD at h2
  split at h2
  · rename_i q
    obtain rfl:=Option.some.inj h2
    exact .inl q
  · rename_i ρ q
    obtain rfl:=Option.some.inj h2
    exact .inr ⟨rfl,ρ,q⟩
  · exact L2.no_ns h2
noncomputable def DefOk (P:Program) (w:World) (K:PySem.W.Frag) (mg:Str → Option Value) (base:Heap) (k:Nat) (x:Str) (ps:List Str) (T:Ty) (F:List PyData → Option PyData):Prop:=
  ∃ f fd,FnOk P w K mg base CX0 k f fd ps (spR K T F) ∧ mg x = some (.ref f) ∧ PySem.W.keepIn K (.ref f) = true ∧ Binds K fd ps [] ∧ PySem.W.nsIn K mainGlobals x = some (some (.ref f))
section
variable {X:Cx} {O:Ow} {a:Expr} {es:List Expr} {pos p:Pos} {fs:Rho → Option (List PyData)} {k:Nat} {ps:List Str} {x:Str} {T:Ty} {F:List PyData → Option PyData}
theorem r_callD (G:DefOk X.prog X.w X.K X.mg X.base k x ps T F) (hr:Room k X.A) (hg:Gl X x) (ha:PAr X O (a :: es) fs) (hdb:autoParam ((x == ("__debug__":Str)) = false) L2.ad._auto_1) (he:autoParam (starEach (a :: es) X.env = (false,eval a X.env) :: starEach es X.env) L2.ar._auto_1) (hpl:autoParam ((backTo pos (starEach es X.env)).any (·.1) = false) L2.ar._auto_1) :
    PR X O (.Call (.Name x p) (a :: es) [] pos) (fun ρ=>(fs ρ).bind F):=by
  refine L2.o_EEAAAA (G) fun f fd h1 h2 h3 h4 _=>?_
  exact r_call h1 hr hg h2 h3 h4 ha hdb he hpl
theorem ft_callD (G:DefOk X.prog X.w X.K X.mg X.base k x ps T F) (hr:Room k X.A) (hg:Gl X x) (ha:PAv X O (a :: es) fs) (hdb:autoParam ((x == ("__debug__":Str)) = false) L2.ad._auto_1) (he:autoParam (starEach (a :: es) X.env = (false,eval a X.env) :: starEach es X.env) L2.ar._auto_1) (hpl:autoParam ((backTo pos (starEach es X.env)).any (·.1) = false) L2.ar._auto_1) :
    PFt X O T (.Call (.Name x p) (a :: es) [] pos) (fun ρ=>(fs ρ).bind F):=by
  refine L2.o_EEAAAA (G) fun f fd h1 h2 h3 h4 _=>?_
  exact ft_call h1 hr hg h2 h3 h4 ha hdb he hpl
end
theorem len0 {P:List Value → Prop} {us:List Value} (h:us.length = 0) (k:P []):P us:=by
  cases us with
  | nil=>exact k
  | cons a r=>cases h
theorem lenS {P:List Value → Prop} {us:List Value} {n:Nat} (h:us.length = n + 1) (k:∀ a r,r.length = n → P (a :: r)):P us:=by
  cases us with
  | nil=>cases h
  | cons a r=>exact k a r (Nat.succ.inj h)
theorem len1 {P:List Value → Prop} {us:List Value} (h:us.length = 1) (k:∀ a,P [a]):P us:=lenS h fun a r h=>len0 (P:=fun r=>P (a :: r)) h (k a)
theorem len2 {P:List Value → Prop} {us:List Value} (h:us.length = 2) (k:∀ a b,P [a,b]):P us:=lenS h fun a r h=>len1 (P:=fun r=>P (a :: r)) h (k a)
theorem len3 {P:List Value → Prop} {us:List Value} (h:us.length = 3) (k:∀ a b c,P [a,b,c]):P us:=lenS h fun a r h=>len2 (P:=fun r=>P (a :: r)) h (k a)
end L2
namespace L2
open PySem PySem.Spec PyProof.Rows
variable [Reg]
noncomputable def Keeps (P:Program) (w:World) (h:Heap) (g:Addr):Prop:=∃ k,(k = Keeper.frame ∨ k = Keeper.machine ∨ k = Keeper.boundFrame) ∧ PySem.W.Looks (model P w) h (keeperOf (.ref g)) k
structure FvOk (P:Program) (w:World) (K:PySem.W.Frag) (mg:Str → Option Value) (base:Heap) (k:Nat) (tag:Str) (F:List PyData → Option PyData):Prop where
  keep:∀ (A:Around) (outer:List Env) (s:Shared) (H:Hp) (g:Addr) (cv:List V),Env0 P w K mg base A outer s H → FnV K H g tag cv → Keeps P w s.heap g
  run:∀ (A:Around) (outer:List Env) (s:Shared) (H:Hp) (g:Addr) (cv:List V) (us:List Value) (vs:List V) (Q:VK) (E:XK),Room k A → Env0 P w K mg base A outer s H → FnV K H g tag cv → Vals vs us → spR K .cl F (vs ++ cv) H Q E →
    codeAny (model P w) A (.call (.ref g) ⟨us,[]⟩) (CR CX0 outer P w H s Q E) s
theorem FvOk.mono {P:Program} {w:World} {K:PySem.W.Frag} {mg:Str → Option Value} {base:Heap} {j k:Nat} {tag:Str} {F:List PyData → Option PyData} (h:FvOk P w K mg base j tag F) (hk:j ≤ k):FvOk P w K mg base k tag F:=
  ⟨h.keep,fun A outer s H g cv us vs Q E hr=>h.run A outer s H g cv us vs Q E (hr.mono hk)⟩
noncomputable abbrev FTab:=List (Str × (List PyData → Option PyData))
section
variable {X:Cx} {O:Ow} {a:Expr} {es:List Expr} {pos p:Pos} {fs:Rho → Option (List PyData)} {fx:Rho → Option PyData} {k:Nat} {ps:List Str} {x:Str} {T:FTab} {T':Ty} {F:List PyData → Option PyData}
end
end L2
namespace L2
open PySem PySem.Spec PyProof.Rows
variable [Reg]
theorem lam_q {P q:Program} (h:((lamNames P).all fun y=>((recsOf q).find? fun e=>e.name == y).isSome) = true):∀ y ∈ lamNames P,((recsOf q).find? fun e=>e.name == y).isSome = true:=List.all_eq_true.mp h
theorem lam_k {P:Program} {K:PySem.W.Frag} (h:((lamNames P).all fun y=>match PySem.W.tabIn K y with | some z=>(K.lookup z.2).isNone | none=>true) = true) (y:Str) (c p:Addr) (hy:y ∈ lamNames P) (e:PySem.W.tabIn K y = some (c,p)):K.lookup p = none:=by
  have:=List.all_eq_true.mp h y hy
  rw [e] at this
  simpa using this
structure LamSc (L:Lam):Prop where
  kind:L.scope.kind = .function
  co:L.scope.isCoroutine = false
  gen:L.scope.isGenerator = false
  nocell:∀ y ∈ L.scope.names,y.2 ≠ .cell
  par:∀ x ∈ L.ps,L.scope.names.lookup x = some .local
  fr:((L.scope.names.filter fun x=>x.2 == .free).map (fun z=>z.1)).reverse = L.free
  frl:∀ x ∈ L.free,L.scope.names.lookup x = some .free
  nd:L.ps.Nodup
  ndf:L.free.Nodup
section
variable {P:Program} {w:World} {K:PySem.W.Frag} {mg:Str → Option Value} {base:Heap} {L:Lam} {clos:List (Str × Addr)} {g c':Addr} {q:Str} {A:Around} {outer:List Env} {s:Shared} {H:Hp}
end
section
variable {X:Cx}
noncomputable def Made (H:Hp) (L:Lam) (clos:List (Str × Addr)) (g:Addr):Prop:=
  ∃ (pm:Value) (c':Addr) (ctv:Value) (oc:Obj) (vs:Array Value) (q:Str) (t:Tok) (φ:HO),H g = some (fz g (PySem.W.kla_obj "<lambda>" L.qual L.params L.body L.scope clos pm c' ctv)) ∧ H c' = some (.frz oc φ) ∧ oc.data = .fields vs ∧ vs[1]? = some (.str q t)
theorem Made.mono {H H':Hp} {L:Lam} {clos:List (Str × Addr)} {g:Addr} (e:Same H H') (h:Made H L clos g):Made H' L clos g:=by
  refine L2.o_EEEEEEEEAA (h) fun pm c' ctv oc vs q t φ h1 h2 h3=>?_
  exact L2.i_EEEEEEEEAA (pm) (c') (ctv) (oc) (vs) (q) (t) (φ) (e _ _ h1) (e _ _ h2) (h3)
end
section
variable {X:Cx} {O:Ow}
noncomputable def nf:PyData → Bool
  | .dict _=>false
  | .list ds=>go ds
  | .tuple ds=>go ds
  | _=>true
where go:List PyData → Bool
  | []=>true
  | d :: r=>nf d && go r
theorem SqT.sub {K:PySem.W.Frag} {G G':Hp} (e:∀ a o,G a = some o → (∀ ob φ,o ≠ .frz ob (.ext φ)) → G' a = some o) {a:Addr} {vs:List V} (q:SqT K G a vs):SqT K G' a vs:=by
  rcases q with (q | ⟨o,q⟩) | q
  · exact .inl (.inl (e _ _ q fun _ _ z=>by cases z))
  · exact .inl (.inr ⟨o,e _ _ q fun _ _ z=>by cases z⟩)
  · exact .inr q
theorem SqL.sub {K:PySem.W.Frag} {G G':Hp} (e:∀ a o,G a = some o → (∀ ob φ,o ≠ .frz ob (.ext φ)) → G' a = some o) {a:Addr} {vs:List V} (q:SqL K G a vs):SqL K G' a vs:=by
  rcases q with (q | ⟨o,q⟩) | q
  · exact .inl (.inl (e _ _ q fun _ _ z=>by cases z))
  · exact .inl (.inr ⟨o,e _ _ q fun _ _ z=>by cases z⟩)
  · exact .inr q
theorem Den.sub {K:PySem.W.Frag} {G G':Hp} (e:∀ a o,G a = some o → (∀ ob φ,o ≠ .frz ob (.ext φ)) → G' a = some o) {v:V} {d:PyData} (z:Den K G v d):nf d = true → Den K G' v d:=
  Den.rec (motive_1:=fun v d _=>nf d = true → Den K G' v d) (motive_2:=fun vs ds _=>nf.go ds = true → DenL K G' vs ds) (fun _=>.non) (fun b _=>.bl b) (fun i _=>.int i) (fun x _=>.str x) (fun q _ r h=>.tup (q.sub e) (r h)) (fun q _ r h=>.lst (q.sub e) (r h)) (fun _ _ _ h=>by cases h) (fun _ _ _ h=>by cases h) (fun _ _ _ h=>by cases h) (fun _=>.nil) (fun _ _ a b h=>by rw [nf.go,Bool.and_eq_true] at h; exact .cons (a h.1) (b h.2)) z
theorem DenL.sub {K:PySem.W.Frag} {G G':Hp} (e:∀ a o,G a = some o → (∀ ob φ,o ≠ .frz ob (.ext φ)) → G' a = some o) {vs:List V} {ds:List PyData} (z:DenL K G vs ds):nf.go ds = true → DenL K G' vs ds:=
  DenL.rec (motive_1:=fun v d _=>nf d = true → Den K G' v d) (motive_2:=fun vs ds _=>nf.go ds = true → DenL K G' vs ds) (fun _=>.non) (fun b _=>.bl b) (fun i _=>.int i) (fun x _=>.str x) (fun q _ r h=>.tup (q.sub e) (r h)) (fun q _ r h=>.lst (q.sub e) (r h)) (fun _ _ _ h=>by cases h) (fun _ _ _ h=>by cases h) (fun _ _ _ h=>by cases h) (fun _=>.nil) (fun _ _ a b h=>by rw [nf.go,Bool.and_eq_true] at h; exact .cons (a h.1) (b h.2)) z
structure LamAtX (X:Cx) (L:Lam) (ix:List Nat):Prop where
  tab:∃ y c p,y ∈ lamNames X.prog ∧ PySem.W.tabIn X.K y = some (c,p) ∧ X.env.code = .ref c
  qual:X.env.qual ++ "<lambda>" = L.qual
  dfl:defaultsOf L.params X.env = ([],[])
  cell:∀ x ∈ L.free,X.env.scope.names.lookup x = some .cell
  fn:∀ x ∈ L.free,X.fn x = true
  sl:ix.map (fun i=>X.N[i]?) = L.free.map some
end
end L2
namespace L2
open PySem PySem.Spec PyProof.Rows
open Sem (wp)
variable [Reg]
section
variable {M:Model} {A:Around} {E:Value → Shared → Prop} {s:Shared} {env:Env} {outer:List Env} {base:Heap} {L e:Addr} {oe:Obj} {vs:Array Value} {Q:Unit → Shared → Prop}
structure Noted (fs:List Addr) (e:Addr) (oe:Obj) (fl:Value) (h h':Heap):Prop where
  exc:h'.get? e = some (oe.mapFields (·.setIfInBounds 1 (.ref h.objs.size)))
  tb:∃ oT ts,h'.get? h.objs.size = some oT ∧ oT.data = .fields ts ∧ ts[3]? = some fl
  keep:∀ b o,b ≠ e → b ∉ fs → h.get? b = some o → h'.get? b = some o
  slot:∀ b o,b ≠ e → h.get? b = some o → ∃ sl,h'.get? b = some { o with slots:=sl }
noncomputable def Tr (h:Heap) (vs:Array Value):Prop:=vs[1]? = some .none ∨ ∃ T oT ts,vs[1]? = some (.ref T) ∧ h.get? T = some oT ∧ oT.data = .fields ts ∧ ts[3]? = some .none
end
structure FlyC (H:Hp) (h G:Heap) (e C:Addr) (od:Option Addr):Prop where
  ex:∃ oe vs,h.get? e = some oe ∧ oe.cls = .ref C ∧ oe.dict = od ∧ oe.data = .fields vs ∧ Tr h vs
  fre:H e = none
  new:G.get? e = none
structure Fly (X:Cx) (pins:List (Addr × Obj)) (H:Hp) (s:Shared) (e C:Addr) (od:Option Addr):Prop where
  c:FlyC H s.heap X.s₀.heap e C od
  pin:∀ p ∈ X.pn ++ pins,p.1 ≠ e
noncomputable def CXe (P:Program) (w:World):CXT:=fun outer H s E e s'=>∃ H' a C od,e = .ref a ∧ s'.os = s.os ∧ AllBare s'.gens ∧ Un (frs outer) [] H H' s.heap s'.heap ∧ HOk P w H' s'.heap ∧ FlyC H' s'.heap s.heap a C od ∧ E (.ref C) od H'
theorem Tr.sz {h:Heap} {vs:Array Value} (t:Tr h vs):1 < vs.size:=by
  rcases t with t | ⟨_,_,_,t,_⟩
  · exact (Array.getElem?_eq_some_iff.mp t).1
  · exact (Array.getElem?_eq_some_iff.mp t).1
section
variable {P:Program} {w:World} {K:PySem.W.Frag} {mg:Str → Option Value} {base:Heap} {N:List Str} {qual:Str} {scope:Scope} {f:Addr} {cd:Value} {A:Around} {outer:List Env} {s s':Shared} {H H':Hp} {E:XK} {pins:List (Addr × Obj)} {σ:St} {a C:Addr} {od:Option Addr}
end
section
variable {X:Cx} {k:Nat} {f:Addr} {fd:FuncData} {ps:List Str} {sp:Sp} {pins:List (Addr × Obj)} {σ:St} {H:Hp} {s:Shared} {Q:VK} {E:XK} {us:List Value} {vs:List V}
end
theorem ObjOk.there {P:Program} {w:World} {H:Hp} {h:Heap} {a:Addr} {o:HO} (x:ObjOk P w H h a o):∃ u,h.get? a = some u:=by
  cases o with
  | lst xs=>obtain ⟨_,_,_,_,e⟩:=x; exact ⟨_,e⟩
  | tup xs=>obtain ⟨_,_,_,o,e,_⟩:=x; exact ⟨_,e⟩
  | dK kvs=>obtain ⟨_,_,_,_,o,_,_,e,_⟩:=x; exact ⟨_,e⟩
  | dT kvs=>obtain ⟨_,_,_,_,o,_,_,e,_⟩:=x; exact ⟨_,e⟩
  | set S n=>obtain ⟨o,_,_,_,e,_⟩:=x; exact ⟨_,e⟩
  | ins C dx fs=>obtain ⟨_,_,_,e,_⟩:=x; exact ⟨_,e⟩
  | own y=>obtain ⟨_,e⟩:=x; exact ⟨_,e⟩
  | xd fs=>obtain ⟨_,⟨_,_,_,e,_⟩,_⟩:=x; exact ⟨_,e⟩
  | rng lo hi=>obtain ⟨_,_,_,e⟩:=x; exact ⟨_,e⟩
  | frz ob u=>obtain ⟨e,_⟩:=x; exact ⟨_,e⟩
  | tbl ps=>exact ⟨_,x⟩
  | tab=>obtain ⟨_,e,_⟩:=x; exact ⟨_,e⟩
  | met f y=>exact ⟨_,x⟩
  | ext φ=>obtain ⟨_,⟨_,e⟩,_⟩:=x; exact ⟨_,e⟩
theorem Inv.none_of {X:Cx} {pins:List (Addr × Obj)} {σ:St} {H:Hp} {s:Shared} {a:Addr} (I:Inv X pins σ H s) (hex:X.ex = []) (e:s.heap.get? a = none):H a = none ∧ X.s₀.heap.get? a = none ∧ ∀ p ∈ X.pn ++ pins,p.1 ≠ a:=by
  refine ⟨?_,?_,fun p hp z=>?_⟩
  · cases q:H a with
    | none=>rfl
    | some u=>
      refine L2.o_E ((I.hok a u q).there) fun o r=>?_
      rw [e] at r; cases r
  · cases q:X.s₀.heap.get? a with
    | none=>rfl
    | some o=>
      obtain ⟨o',r⟩:=I.base.there a o q (by rw [hex]; simp)
      rw [e] at r; cases r
  · have:=(I.pin p hp).1
    rw [z,e] at this; cases this
end L2
namespace L2
open PySem PySem.Spec PyProof.Rows
variable [Reg]
noncomputable def XIs (K:PySem.W.Frag) (H:Hp) (C:Addr) (od:Option Addr) (x:PyData):Prop:=
  ∃ cls fv fd,x = excD cls (nmD fv ++ fd) ∧ PySem.W.nsIn K mainGlobals cls = some (some (.ref C)) ∧ ((fv = [] ∧ od = none) ∨ ∃ dx,od = some dx ∧ H dx = some (.xd fv)) ∧ DenL K H (fv.map (·.2)) fd
theorem XIs.mono {K:PySem.W.Frag} {H H':Hp} {C:Addr} {od:Option Addr} {x:PyData} (s:Same H H') (h:XIs K H C od x):XIs K H' C od x:=by
  refine L2.o_EEEAAA (h) fun cls fv fd h1 h2 h3 h4=>?_
  refine L2.i_EEEAAA (cls) (fv) (fd) (h1) (h2) ?_ (h4.mono s)
  rcases h3 with h3 | ⟨dx,h3,h5⟩
  · exact .inl h3
  · exact .inr ⟨dx,h3,s _ _ h5⟩
inductive RX where
  | ret (d:PyData) | exc (x:PyData)
noncomputable def spX (K:PySem.W.Frag) (T:Ty) (F:List PyData → Option RX):Sp:=fun vs H Q E=>∃ (hid:Addr → Prop) (ds:List PyData) (r:RX),(∀ b,hid b → ∃ vs:OwO,H b = some vs.ho) ∧ DenL K (del H hid) vs ds ∧ F ds = some r ∧
  match r with
  | .ret d=>∀ v as H',Same H H' → (∀ p ∈ as,H p = none) → DenO K H' (del H' (uni hid as)) T v d as → Q v H'
  | .exc x=>∀ C od H',Same H H' → XIs K (del H' hid) C od x → E (.ref C) od H'
noncomputable def tXt (X:Cx) (O:Ow) (T:Ty) (f:Rho → Option RX):TE:=fun σ H Q=>At5 X.K O f σ H fun hid H0 ρ ow r=>
  match r with
  | .ret d=>∀ v as H',Same H H' → (∀ p ∈ as,H p = none) → DenO X.K H' (del H' (uni hid (as ++ ow))) T v d as → Q v H'
  | .exc x=>∀ pins s' H' a C od,Inv X pins σ H' s' → Same H H' → Fly X pins H' s' a C od → XIs X.K (del H' (uni hid ow)) C od x → X.xe (.ref a) s'
noncomputable abbrev PXt (X:Cx) (O:Ow) (T:Ty) (e:Expr) (f:Rho → Option RX):Prop:=PE X e (tXt X O T f)
noncomputable def DefX (P:Program) (w:World) (K:PySem.W.Frag) (mg:Str → Option Value) (base:Heap) (k:Nat) (x:Str) (ps:List Str) (T:Ty) (F:List PyData → Option RX):Prop:=
  ∃ f fd,FnOk P w K mg base (CXe P w) k f fd ps (spX K T F) ∧ mg x = some (.ref f) ∧ PySem.W.keepIn K (.ref f) = true ∧ Binds K fd ps [] ∧ PySem.W.nsIn K mainGlobals x = some (some (.ref f))
noncomputable def pureX (F:List PyData → Option RX) (ds:List PyData):Option PyData:=(F ds).bind fun r=>match r with
  | .ret d=>some d
  | .exc _=>none
theorem DefX.ok {P:Program} {w:World} {K:PySem.W.Frag} {mg:Str → Option Value} {base:Heap} {k:Nat} {x:Str} {ps:List Str} {T:Ty} {F:List PyData → Option RX} (G:DefX P w K mg base k x ps T F):DefOk P w K mg base k x ps T (pureX F):=by
  refine L2.o_EEAAAA (G) fun f fd h1 h2 h3 h4 h5=>?_
  have imp:∀ vs H Q E,spR K T (pureX F) vs H Q E → spX K T F vs H Q E0:=fun vs H Q E zpat=>by
    refine L2.o_EEEAAA (zpat) fun hid ds r a1 a2 a3 a4=>?_
    obtain ⟨q,b1,b2⟩:=bind_some a3
    cases q with
    | ret d=>cases b2; exact ⟨hid,ds,.ret r,a1,a2,b1,a4⟩
    | exc x=>exact L2.no_ns b2
  refine L2.i_EEAAAA (f) (fd) (⟨fun vs H Q E h=>h1.len vs H Q E0 (imp vs H Q E h),fun A outer s H args us vs Q E hr he hb hv hs=>?_⟩) (h2) (h3) (h4) (h5)
  refine codeAny_mono (h1.run A outer s H args us vs Q E0 hr he hb hv (imp vs H Q E hs)) fun r s' hq=>?_
  cases r with
  | error e=>
    refine L2.o_EEEEAAAAAA (hq) fun H' a C od _ _ _ _ _ _ q=>?_
    exact q.elim
  | ok fl=>cases fl <;> exact hq
section
variable {X:Cx} {O:Ow} {a:Expr} {es:List Expr} {pos p:Pos} {fs:Rho → Option (List PyData)} {k:Nat} {ps:List Str} {x:Str} {T:Ty} {F:List PyData → Option RX}
end
inductive OutX where
  | nx (ρ:Rho) | rt (d:PyData) | bk (ρ:Rho) | ct (ρ:Rho) | ex (x:PyData) (ρ:Rho)
noncomputable def ThenX (X:Cx) (O:Ow) (hid:Addr → Prop) (H0 G:Hp) (D:Ends):OutX → Prop
  | .nx ρ'=>∀ σ' H' ow',Same G (del H' (uni hid ow')) → EnvOk X.K O hid H0 σ' H' ρ' ow' → D.nx σ' H'
  | .bk ρ'=>∀ σ' H' ow',Same G (del H' (uni hid ow')) → EnvOk X.K O hid H0 σ' H' ρ' ow' → D.bk σ' H'
  | .ct ρ'=>∀ σ' H' ow',Same G (del H' (uni hid ow')) → EnvOk X.K O hid H0 σ' H' ρ' ow' → D.ct σ' H'
  | .rt d=>∀ v as H',Same H0 H' → (∀ p ∈ as,H0 p = none) → DenO X.K H' (del H' (uni hid as)) O.r v d as → D.rt v H'
  | .ex x ρ'=>∀ pins s' σ' H' ow' a C od,Inv X pins σ' H' s' → Same G (del H' (uni hid ow')) → EnvOk X.K O hid H0 σ' H' ρ' ow' → Fly X pins H' s' a C od → XIs X.K (del H' (uni hid ow')) C od x → X.xe (.ref a) s'
noncomputable def tPx (X:Cx) (O:Ow) (F:Rho → Option OutX):TS:=fun D σ H=>At5 X.K O F σ H fun hid H0 ρ ow o=>ThenX X O hid H0 (del H (uni hid ow)) D o
noncomputable abbrev PSx (X:Cx) (O:Ow) (st:Stmt) (F:Rho → Option OutX):Prop:=PS X st (tPx X O F)
noncomputable abbrev PSsx (X:Cx) (O:Ow) (st:List Stmt) (F:Rho → Option OutX):Prop:=PSs X st (tPx X O F)
theorem ThenX.weak {X:Cx} {O:Ow} {hid:Addr → Prop} {H0 G G':Hp} {D:Ends} {o:OutX} (s:Same G G') (h:ThenX X O hid H0 G D o):ThenX X O hid H0 G' D o:=by
  cases o with
  | nx ρ=>exact fun σ' H' ow' s' E=>h σ' H' ow' (s.trans s') E
  | bk ρ=>exact fun σ' H' ow' s' E=>h σ' H' ow' (s.trans s') E
  | ct ρ=>exact fun σ' H' ow' s' E=>h σ' H' ow' (s.trans s') E
  | rt d=>exact h
  | ex x ρ=>exact fun pins s1 σ' H' ow' a C od I s' E f q=>h pins s1 σ' H' ow' a C od I (s.trans s') E f q
noncomputable def Out.x:Out → OutX
  | .nx ρ=>.nx ρ
  | .rt d=>.rt d
  | .bk ρ=>.bk ρ
  | .ct ρ=>.ct ρ
noncomputable def forXD (S:PyData → Rho → Option Rho) (F:Rho → Option OutX):List PyData → Rho → Option OutX
  | [],ρ=>some (.nx ρ)
  | d :: r,ρ=>(S d ρ).bind fun ρ1=>(F ρ1).bind fun o=>match o with
    | .nx ρ2=>forXD S F r ρ2
    | .ct ρ2=>forXD S F r ρ2
    | .bk ρ2=>some (.nx ρ2)
    | .rt v=>some (.rt v)
    | .ex x ρ2=>some (.ex x ρ2)
section
variable {X:Cx} {O:Ow} {st:Stmt} {rest:List Stmt} {F G:Rho → Option OutX} {e:Expr} {f:Rho → Option RX} {pos:Pos} {T:Ty}
end
end L2
namespace L2
open PySem PySem.Spec PyProof.Rows
variable [Reg]
section
variable {X:Cx} {O:Ow} {st:Stmt} {rest:List Stmt} {F G:Rho → Option OutX} {e:Expr} {f:Rho → Option RX} {pos:Pos} {T:Ty}
inductive FIx (K:PySem.W.Frag) (O:Ow) (hid:Addr → Prop) (H0 G1:Hp) (S:PyData → Rho → Option Rho) (F:Rho → Option OutX) (ds:List PyData) (out:OutX) (i m:Nat) (τ:St) (H2:Hp):Prop
  | mk (ρ2:Rho) (ow2:List Addr) (left:List PyData) (hM:Mid ds i m left) (E2:EnvOk K O hid H0 τ H2 ρ2 ow2) (s2:Same G1 (del H2 (uni hid ow2))) (hr:forXD S F left ρ2 = some out):FIx K O hid H0 G1 S F ds out i m τ H2
noncomputable def bmVE:List Value:=[.type "ValueError",.type "Exception",.type "BaseException",.type "object"]
inductive XNo (K:PySem.W.Frag) (C:Addr):Prop
  | mk (nm q:Str) (N:Addr) (bs bm:List Value) (hdct:Bool) (sn:List Str) (sub:List Value) (ab:Bool) (col:Option Bool) (dd:Option Addr) (k0 k1 k2 k3 k5:Option Value) (ob:Obj) (l:K.lookup C = some ob) (eo:ob = excClassObj nm q C N bs bm hdct sn sub ab col dd k0 k1 k2 k3 k5 "ValueError.__new__") (t:PySem.W.tailIn K bmVE bm = true) (o:PySem.W.nsOkIn K N = true) (i:PySem.W.nsIn K N "__init__" = some none):XNo K C
theorem XNo.of {K:PySem.W.Frag} {C:Addr} {nm q:Str} {N:Addr} {bs bm:List Value} {hdct:Bool} {sn:List Str} {sub:List Value} {ab:Bool} {col:Option Bool} {dd:Option Addr} {k0 k1 k2 k3 k5:Option Value} {ob:Obj} (l:K.lookup C = some ob) (eo:ob = excClassObj nm q C N bs bm hdct sn sub ab col dd k0 k1 k2 k3 k5 "ValueError.__new__") (t:PySem.W.tailIn K bmVE bm = true) (o:PySem.W.nsOkIn K N = true) (i:PySem.W.nsIn K N "__init__" = some none):XNo K C:=⟨nm,q,N,bs,bm,hdct,sn,sub,ab,col,dd,k0,k1,k2,k3,k5,ob,l,eo,t,o,i⟩
structure XCls (X:Cx) (x:Str) (C:Addr):Prop where
  gl:Gl X x
  mg:X.mg x = some (.ref C)
  ns:PySem.W.nsIn X.K mainGlobals x = some (some (.ref C))
  ex:XNo X.K C
inductive ExcObj (h:Heap) (C:Addr):Prop
  | mk (nm q:Str) (N:Addr) (bs bm:List Value) (hdct:Bool) (sn:List Str) (sub:List Value) (ab:Bool) (col:Option Bool) (dd:Option Addr) (k0 k1 k2 k3 k5:Option Value) (mN:Str → Option Value) (hC:h.get? C = some (excClassObj nm q C N bs bm hdct sn sub ab col dd k0 k1 k2 k3 k5 "ValueError.__new__")) (hN:h.Ns N mN) (hi:mN "__init__" = none) (T:OwnTail h bmVE bm):ExcObj h C
end
end L2
namespace L2
open PySem PySem.Spec PyProof.Rows
variable [Reg]
noncomputable abbrev Cx.wp (X:Cx) (pn:List (Addr × Obj)) (W:Value → Shared → Prop):Cx:={ X with pn:=pn,xe:=W }
noncomputable abbrev Cx.mark (X:Cx) (pn:List (Addr × Obj)) (a:Addr):Cx:={ X with A:=X.A.mark (some (.ref a)),calm:=false,pn:=pn,xe:=fun _ _=>False }
section
variable {X:Cx} {pins pins':List (Addr × Obj)} {σ:St} {H:Hp} {s:Shared} {W:Value → Shared → Prop} {a:Addr}
theorem Inv.wp (I:Inv X pins σ H s) (W:Value → Shared → Prop):Inv (X.wp (X.pn ++ pins) W) [] σ H s:=
  ⟨⟨I.ok.mod,I.ok.kind,I.ok.glob,I.ok.blt,I.ok.above,I.ok.inj,I.ok.has,I.ok.cab,I.ok.hd,I.ok.frames,I.ok.stk,I.ok.exf,I.ok.bs,I.ok.bsz,I.ok.noex,I.ok.exfs,I.ok.funs,I.ok.frf,I.ok.tabs⟩,I.os,I.bare,I.base,I.loc,I.cell,I.free,I.freeC,fun p hp=>I.pin p (by simpa using hp),I.hok,I.len⟩
theorem Inv.mark (I:Inv X pins σ H s) (a:Addr):Inv (X.mark (X.pn ++ pins) a) [] σ H s:=
  ⟨⟨I.ok.mod,I.ok.kind,I.ok.glob,I.ok.blt,I.ok.above,I.ok.inj,I.ok.has,I.ok.cab,(fun z=>nomatch z),I.ok.frames,I.ok.stk,I.ok.exf,I.ok.bs,I.ok.bsz,I.ok.noex,I.ok.exfs,I.ok.funs,I.ok.frf,I.ok.tabs⟩,I.os,I.bare,I.base,I.loc,I.cell,I.free,I.freeC,fun p hp=>I.pin p (by simpa using hp),I.hok,I.len⟩
end
section
variable {X:Cx} {O:Ow} {body suite:List Stmt} {b₀:Stmt} {n tn:Str} {ie:Nat} {np hpos pos:Pos} {F:Rho → Option OutX} {Hd:Rho → Option Out} {PC:Addr} {caught:List Str}
end
end L2
namespace L2
open PySem PySem.Spec PyProof.Rows
variable [Reg]
structure XCD (K:PySem.W.Frag) (mg:Str → Option Value) (x:Str) (C:Addr):Prop where
  mg:mg x = some (.ref C)
  ns:PySem.W.nsIn K mainGlobals x = some (some (.ref C))
  ex:XNo K C
theorem XCD.at {X:Cx} {x:Str} {C:Addr} (c:XCD X.K X.mg x C) (hg:Gl X x):XCls X x C:=⟨hg,c.mg,c.ns,c.ex⟩
noncomputable def excKit (K:PySem.W.Frag) (C:Addr):Bool:=
  PySem.W.findIn K (.ref C) "__getattribute__" == some (some (.builtin "BaseException.__getattribute__")) && PySem.W.findIn K (.ref C) "__getattr__" == some none && PySem.W.mroIn K C (.type "BaseException") == some true &&
  PySem.W.findIn K (.ref C) "__class__" == some (some (.builtin "object.__class__")) && PySem.W.specialIn K (.builtin "object.__class__") "__get__" == some (some (.builtin "getset_descriptor.__get__")) && PySem.W.takesIn K (.builtin "object.__class__") == some true && PySem.W.mroIn K C (.type "object") == some true && PySem.W.hasDictIn K C
structure ExcKit (K:PySem.W.Frag) (C:Addr):Prop where
  ga:PySem.W.findIn K (.ref C) "__getattribute__" = some (some (.builtin "BaseException.__getattribute__"))
  gn:PySem.W.findIn K (.ref C) "__getattr__" = some none
  be:PySem.W.mroIn K C (.type "BaseException") = some true
  cl:PySem.W.findIn K (.ref C) "__class__" = some (some (.builtin "object.__class__"))
  sp:PySem.W.specialIn K (.builtin "object.__class__") "__get__" = some (some (.builtin "getset_descriptor.__get__"))
  tk:PySem.W.takesIn K (.builtin "object.__class__") = some true
  ob:PySem.W.mroIn K C (.type "object") = some true
  hd:PySem.W.hasDictIn K C = true
section
variable {prog:Program} {w:World} {A:Around} {E:Value → Shared → Prop} {s:Shared} {K:PySem.W.Frag} {x D:Addr} {ox:Obj} {od:Option Obj} {name:Str} {R:Result → Shared → Prop} {Q:Value → Shared → Prop}
end
noncomputable def subX (cls T:Str):Bool:=cls == T || T == "PostError" || T == "ValueError"
noncomputable def isTrue:PyData → Bool
  | .bool b=>b
  | _=>false
structure IsT (K:PySem.W.Frag) (mg:Str → Option Value) (exs:List Str) (T:Str) (D:Addr):Prop where
  mg:mg T = some (.ref D)
  ex:∀ cls ∈ exs,∀ C,PySem.W.nsIn K mainGlobals cls = some (some (.ref C)) → excKit K C = true ∧ PySem.W.kitOne K (.ref C) (.ref D) = some (subX cls T)
  no:PySem.W.kitOne K (.type "NoneType") (.ref D) = some false
structure IsV (K:PySem.W.Frag) (exs:List Str):Prop where
  ex:∀ cls ∈ exs,∀ C,PySem.W.nsIn K mainGlobals cls = some (some (.ref C)) → excKit K C = true ∧ PySem.W.kitOne K (.ref C) (.type "ValueError") = some true
  no:PySem.W.kitOne K (.type "NoneType") (.type "ValueError") = some false
section
variable {X:Cx} {O:Ow} {e:Expr} {f:Rho → Option PyData} {p p2 pos:Pos} {exs:List Str} {T:Str} {D:Addr}
end
end L2
namespace L2
open PySem PySem.Spec PyProof.Rows
variable [Reg]
section
variable {X:Cx} {O:Ow} {a b:Expr} {fa fb:Rho → Option PyData} {apos cpos pos p:Pos}
theorem call_sum (hc:X.calm = true):CallR X (.builtin "sum") (fun xs H Q=>∃ (a:Addr) (ns:List Int),xs = [.ref a] ∧ SqL X.K H a (ns.map V.int) ∧ Q (.int ns.sum) H):=by
  intro pins s σ H xs us Q I r h
  revert h
  refine fun zqq=>L2.o_EEAA zqq fun q ns zq2 hq k=>?_
  clear zqq
  subst zq2
  refine L2.o_EA (vals1 r) fun u zq1 rx=>?_
  subst zq1
  cases rx
  refine L2.o_EAA (I.list hq) fun its r' pl hz=>?_
  have hI:=intsAre_of r'
  have hl:=pl.isList
  refine L2.o_E (hI.allInts.items) fun xs hx=>?_
  have hn:numsOf its.toArray.toList = ns:=by rw [show its.toArray.toList = its from rfl,hI.numsOf]
  rw [hx] at hl hn
  rw [nums_intItems] at hn
  refine sum_intListG (I.ok.hd hc) hl fun h' tk t' hk=>?_
  rw [preSum_eq,List.take_of_length_le (by simp),hn]
  exact ⟨.int _,H,I.kept (t':=tk) hk,⟨t',rfl⟩,k⟩
noncomputable def sumD:PyData → Option PyData
  | .list ds=>(intsO ds).map fun ns=>.int ns.sum
  | _=>none
theorem v_sum (hc:X.calm = true) (hg:Gl X "sum") (hm:X.mg "sum" = none) (ha:PR X O a fa) (he:autoParam (starEach [a] X.env = (false,eval a X.env) :: starEach [] X.env) L2.ar._auto_1) (hpl:autoParam ((backTo pos (starEach [] X.env)).any (·.1) = false) L2.ar._auto_1)
    (hv:bootBuiltins "sum" = some (.builtin "sum"):=by decide +kernel):PV X O (.Call (.Name "sum" p) [a] [] pos) (fun ρ=>(fa ρ).bind sumD):=
  (pe_callB (call_sum hc) hg hm hv (pa_cons ha pa_nil he) (by decide) (by decide) he hpl).imp fun σ H Q zpat=>by
    obtain ⟨hid,H0,ρ,ow,r,E,hf,k⟩:=zpat
    obtain ⟨d,h1,h2⟩:=bind_some hf
    refine ⟨hid,H0,ρ,ow,d,E,h1,fun x H1 s1 D1=>?_⟩
    unfold sumD at h2
    split at h2
    case h_2=>cases h2
    obtain ⟨ns,h3,rfl⟩:=map_some h2
    have e:=intsO_some h3
    subst e
    obtain ⟨q,vs,rfl,q1,r1⟩:=den_lst D1
    have e2:=r1.isInts
    subst e2
    exact L2.i_EEAA (q) (ns) (rfl) ((del_same _ _).seq q1) (k _ H1 s1 (.int _))
end
end L2
namespace L2
open PySem PySem.Spec PyProof.Rows
variable [Reg]
section
variable {K:PySem.W.Frag} {O O':Ow} {hid:Addr → Prop} {H0 H H':Hp} {σ:St} {ρ:Rho} {ow:List Addr}
end
section
variable {X:Cx} {O O':Ow} {st:Stmt} {rest:List Stmt} {F G:Rho → Option Out} {e:Expr} {f:Rho → Option PyData} {pos:Pos}
theorem EnvOk.free {K:PySem.W.Frag} {O:Ow} {hid:Addr → Prop} {H0 H:Hp} {σ:St} {ρ:Rho} {ow:List Addr} (E:EnvOk K O hid H0 σ H ρ ow) (r:Ty):EnvOk K ⟨[],r⟩ hid H0 σ H ρ []:=by
  refine ⟨E.len,E.baseS.trans (fun b o q=>(by rw [del_out (by simp)]; exact q)),fun i d _ q=>?_,⟨fun _=>[],(fun i t d h=>(by cases h)),(fun i j p _ h=>(by cases h)),(fun i p h=>(by cases h))⟩,(fun l h=>(by cases h)),E.ishL,fun _=>rfl⟩
  refine L2.o_EA (E.raw q) fun v a b=>?_
  exact ⟨v,a,b.mono (del_sub fun b z=>by
    rcases z with z | z
    · exact z
    · cases z)⟩
end
section
variable {X:Cx} {O:Ow} {i:Nat} {x:Str} {pos' spos:Pos} {elt tg iter:Expr} {ifs:List Expr} {scope:Scope} {pos:Pos} {fi:Rho → Option (List PyData)} {S:PyData → Rho → Option Rho} {ft:Rho → Option Bool} {fe:Rho → Option PyData} {k:Nat} {N:List Str} {ix:List Nat}
end
section
variable {X:Cx} {O:Ow} {i:Nat}
end
end L2
namespace L2
open PySem PySem.Spec PyProof.Rows
variable [Reg]
section
variable {K:PySem.W.Frag} {O:Ow} {hid:Addr → Prop} {H0 H H' C C':Hp} {σ:St} {ρ:Rho} {ow:List Addr}
theorem DenOs.snoc {t:Ty} {v:V} {d:PyData} {bs:List Addr} (h2:DenO K H C t v d bs) {vs:List V} {ds:List PyData} {as:List Addr} (h:DenOs K H C t vs ds as):(∀ p ∈ as,p ∉ bs) → DenOs K H C t (vs ++ [v]) (ds ++ [d]) (as ++ bs):=
  DenOs.ind (P:=fun vs ds as=>(∀ p ∈ as,p ∉ bs) → DenOs K H C t (vs ++ [v]) (ds ++ [d]) (as ++ bs)) (fun _=>by
    have:=DenOs.cons h2 (.nil (K:=K) (H:=H) (C:=C) (t:=t)) (fun p _ z=>absurd z List.not_mem_nil)
    rw [List.append_nil] at this
    exact this) (fun h r n ih q=>by
    rw [List.append_assoc]
    exact .cons h (ih fun p hp=>q p (List.mem_append_right _ hp)) fun p hp z=>(List.mem_append.mp z).elim (n p hp) (q p (List.mem_append_left _ hp))) h
theorem EnvOk.hideN (E:EnvOk K O0 hid H0 σ H ρ []) (s:Same H H') {bs:List Addr} {hid':Addr → Prop} (hb:∀ b,hid' b → hid b ∨ b ∈ bs) (hf:∀ p ∈ bs,H p = none) (hl:∀ b,hid' b → ∃ vs:OwO,H' b = some vs.ho):EnvOk K O0 hid' H0 σ H' ρ []:=by
  have E1:=E.mono s
  refine ⟨E1.len,E1.base,fun i d hi q=>?_,⟨fun _=>[],fun i t d h=>(by cases h),fun i j p _ h=>(by cases h),fun i p h=>(by cases h)⟩,fun l h=>(by cases h),hl,fun _=>rfl⟩
  refine L2.o_EA (E.val i d hi q) fun v h1 h2=>?_
  refine ⟨v,h1,h2.mono fun b o e=>?_⟩
  rw [uni_nil] at e
  by_cases hh:hid b
  · rw [del_in hh] at e; cases e
  · rw [del_out hh] at e
    rw [del_out fun z=>?_]
    · exact s _ _ e
    · rcases z with z | z
      · rcases hb b z with z | z
        · exact hh z
        · rw [hf b z] at e; cases e
      · cases z
inductive CIt (K:PySem.W.Frag) (hid:Addr → Prop) (H H1:Hp) (D:Addr) (T:Ty) (S:PyData → Rho → Option Rho) (ft:Rho → Option Bool) (fe:Rho → Option PyData) (ds out:List PyData) (i m:Nat) (τ:St) (H2:Hp):Prop
  | mk (ρ2:Rho) (ys:List V) (done rest left:List PyData) (as:List Addr) (hM:Mid ds i m left) (E2:EnvOk K O0 (uni hid (D :: as)) H τ H2 ρ2 []) (s2:Same H1 H2) (hy:H2 D = some (.lst ys)) (hd:DenOs K H2 (del H2 (uni hid (D :: as))) T ys done as) (hn:∀ p ∈ as,H1 p = none ∧ p ≠ D) (hr:compD S ft fe left ρ2 = some rest) (ho:out = done ++ rest) (hl:done.length ≤ i):CIt K hid H H1 D T S ft fe ds out i m τ H2
theorem comp_impT {T:Ty} {fi:Rho → Option (List PyData)} {S:PyData → Rho → Option Rho} {ft:Rho → Option Bool} {fe:Rho → Option PyData} {k:Nat} {ix:List Nat} (h0:O.s = []):∀ σ H Q,tFt K O (.lst T) (fun ρ=>(compO S ft fe (fi ρ) (frees k ix ρ)).map .list) σ H Q → tComp (tIr K O fi) (tG K O0 S) (tT K O0 ft) (tFt K O0 T fe) (stComp k ix) σ H Q:=fun σ H Q zpat=>by
  obtain ⟨hid,H0,ρ,ow,out',E,hf',q⟩:=zpat
  obtain ⟨out,hf,rfl⟩:=map_some hf'
  obtain rfl:ow = []:=E.emp h0
  obtain ⟨ds,h1,h2⟩:=bind_some hf
  split at h2
  case isFalse=>cases h2
  rename_i hlen
  have hz:ds.length ≤ 1000:=of_decide_eq_true hlen
  clear hf hf' hlen
  refine ⟨hid,H0,ρ,[],ds,E,h1,fun J H1 s1 G D hD=>?_⟩
  clear h1
  have hDH:H D = none:=s1.free hD
  refine ⟨CIt K hid H H1 D T S ft fe ds out,⟨ds.length,.mk (frees k ix ρ) [] [] out ds [] (.start ds) ?_ (same_new hD) upd_same .nil (fun p hp=>absurd hp List.not_mem_nil) h2 rfl (Nat.le_refl _)⟩,fun i m τ H2 zp=>?_⟩
  · refine frees_ok E (s1.trans (same_new hD)) (del_new (s1.trans (same_new hD)) hDH fun b z=>by rcases z with z | z; exact .inl z; exact .inr (by simpa using z)) (fun b z=>?_) k ix
    rcases z with z | z
    · refine L2.o_E (E.ishL b z) fun vs e=>?_
      exact ⟨vs,(s1.trans (same_new hD)) _ _ e⟩
    · have z:b = D:=by simpa using z
      rw [z,upd_same]
      exact ⟨.l _,rfl⟩
  · obtain ⟨ρ2,ys,done,rest,left,as,hM,E2,s2,hy,hd,hnew,hr,ho,hdl⟩:=zp
    have into:Same (del H1 hid) (del H2 (uni hid (D :: as))):=fun b o e=>by
      by_cases hh:hid b
      · rw [del_in hh] at e; cases e
      · rw [del_out hh] at e
        rw [del_out fun z=>?_]
        · exact s2 _ _ e
        · rcases z with z | z
          · exact hh z
          · rcases List.mem_cons.mp z with z | z
            · rw [z,hD] at e; cases e
            · rw [(hnew b z).1] at e; cases e
    have keep:Same (del H1 hid) H2:=into.trans (del_same _ _)
    cases left with
    | nil=>
      obtain rfl:=hM.fin
      rw [compD] at hr
      obtain rfl:=Option.some.inj hr
      rw [List.append_nil] at ho
      subst ho
      refine .inl ⟨G.stop H2 keep,q (.ref D) (D :: as) H2 (s1.trans s2) (fun p hp=>?_) ?_⟩
      · rcases List.mem_cons.mp hp with z | z
        · rw [z]; exact hDH
        · exact s1.free (hnew p z).1
      · rw [List.append_nil]
        exact .lst hy hd fun z=>(hnew D z).2 rfl
    | cons d r=>
      obtain ⟨hlt,hdi,m',hm',hM'⟩:=hM.cut
      rw [compD] at hr
      obtain ⟨ρ3,g1,hr⟩:=bind_some hr
      obtain ⟨c,g2,hr⟩:=bind_some hr
      refine .inr ⟨G.go H2 i keep hlt,CIt K hid H H1 D T S ft fe ds out (i + 1) m',fun τ' H' z=>⟨m',hm',z⟩,fun x H3 y=>?_⟩
      refine L2.o_A (G.step into (fun p hp z=>E2.fresh hp (.inl z)) hdi y) fun s23 Dx=>?_
      rw [← uni_nil (uni hid (D :: as))] at Dx
      refine ⟨uni hid (D :: as),H,ρ2,[],d,ρ3,E2.mono s23,Dx,g1,fun τ3 E3=>⟨uni hid (D :: as),H,ρ3,[],c,E3,g2,fun H5 s5=>?_⟩⟩
      have sA:Same H2 H5:=s23.trans s5
      cases c with
      | false=>
        dsimp only
        rw [if_neg Bool.false_ne_true] at hr ⊢
        exact CIt.mk ρ3 ys done rest r as hM' (E3.mono s5) (s2.trans sA) (sA _ _ hy) (hd.mono (del_mono sA _) (fun p _ o e=>sA _ _ e)) (hnew) (hr) (ho) (Nat.le_succ_of_le hdl)
      | true=>
        dsimp only
        rw [if_pos rfl] at hr ⊢
        obtain ⟨yv,g3,hr⟩:=bind_some hr
        obtain ⟨rest2,g4,rfl⟩:=map_some hr
        refine ⟨uni hid (D :: as),H,ρ3,[],yv,E3.mono s5,g3,fun y bs H6 s6 hbs Dy=>?_⟩
        have sB:Same H2 H6:=sA.trans s6
        have bD:∀ p ∈ bs,p ≠ D:=fun p hp z=>by
          have e1:=hbs p hp
          rw [z,sA _ _ hy] at e1; cases e1
        have b1:∀ p ∈ bs,H1 p = none:=fun p hp=>by
          cases e:H1 p with
          | none=>rfl
          | some o=>have e1:=hbs p hp; rw [sA _ _ (s2 _ _ e)] at e1; cases e1
        have abs:∀ p ∈ as,p ∉ bs:=fun p hp z=>by
          refine L2.o_E (hd.lists p hp) fun vs e=>?_
          have e1:=hbs p z
          rw [sA _ _ e] at e1; cases e1
        have hmem:∀ b,b ∈ D :: (as ++ bs) ↔ b = D ∨ b ∈ as ∨ b ∈ bs:=fun b=>by simp
        have hlis:∀ b,uni hid (D :: (as ++ bs)) b → ∃ vs:OwO,upd H6 D (.lst (ys ++ [y])) b = some vs.ho:=fun b z=>by
          by_cases hbd:b = D
          · rw [hbd,upd_same]; exact ⟨.l _,rfl⟩
          · rw [upd_ne hbd]
            rcases z with z | z
            · refine L2.o_E (E2.ishL b (.inl z)) fun vs e=>?_
              exact ⟨vs,sB _ _ e⟩
            · rcases (hmem b).mp z with z | z | z
              · exact absurd z hbd
              · refine L2.o_E (hd.lists b z) fun vs e=>?_
                exact ⟨vs,sB _ _ e⟩
              · exact Dy.lists b z
        have cB:Same (del H2 (uni hid (D :: as))) (del (upd H6 D (.lst (ys ++ [y]))) (uni hid (D :: (as ++ bs)))):=fun b o e=>by
          by_cases hh:uni hid (D :: as) b
          · rw [del_in hh] at e; cases e
          · rw [del_out hh] at e
            have hbd:b ≠ D:=fun z=>hh (.inr (by rw [z]; exact List.mem_cons_self))
            rw [del_out fun z=>?_,upd_ne hbd]
            · exact sB _ _ e
            · rcases z with z | z
              · exact hh (.inl z)
              · rcases (hmem b).mp z with z | z | z
                · exact hbd z
                · exact hh (.inr (List.mem_cons_of_mem _ z))
                · have e1:=hbs b z; rw [sA _ _ e] at e1; cases e1
        have cE:Same (del H6 (uni (uni hid (D :: as)) (bs ++ []))) (del (upd H6 D (.lst (ys ++ [y]))) (uni hid (D :: (as ++ bs)))):=fun b o e=>by
          by_cases hh:uni (uni hid (D :: as)) (bs ++ []) b
          · rw [del_in hh] at e; cases e
          · rw [del_out hh] at e
            have hbd:b ≠ D:=fun z=>hh (.inl (.inr (by rw [z]; exact List.mem_cons_self)))
            rw [del_out fun z=>?_,upd_ne hbd]
            · exact e
            · rcases z with z | z
              · exact hh (.inl (.inl z))
              · rcases (hmem b).mp z with z | z | z
                · exact hbd z
                · exact hh (.inl (.inr (List.mem_cons_of_mem _ z)))
                · exact hh (.inr (by rw [List.append_nil]; exact z))
        refine ⟨ys,sB _ _ hy,by rw [hd.length]; exact Nat.lt_of_le_of_lt hdl (Nat.lt_of_lt_of_le hlt (Nat.le_trans hz (by decide))),CIt.mk ρ3 (ys ++ [y]) (done ++ [yv]) rest2 r (as ++ bs) hM' ?_ (fun b o e=>?_) (upd_same) ?_ (fun p hp=>?_) (g4) ?_ ?_⟩
        · have E6:EnvOk K O0 (uni hid (D :: (as ++ bs))) H τ3 H6 ρ3 []:=EnvOk.hideN (hid:=uni hid (D :: as)) (bs:=bs) (E3.mono s5) s6 (fun b z=>by
            rcases z with z | z
            · exact .inl (.inl z)
            · rcases (hmem b).mp z with z | z | z
              · exact .inl (.inr (by rw [z]; exact List.mem_cons_self))
              · exact .inl (.inr (List.mem_cons_of_mem _ z))
              · exact .inr z) hbs fun b z=>by
            by_cases hbd:b = D
            · exact ⟨.l ys,by rw [hbd]; exact sB _ _ hy⟩
            · refine L2.o_E (hlis b z) fun vs e=>?_
              rw [upd_ne hbd] at e
              exact ⟨vs,e⟩
          exact E6.updHid (.inr List.mem_cons_self) hDH
        · rw [upd_ne (ne_of_none e hD)]
          exact sB b o (s2 b o e)
        · exact DenOs.snoc (Dy.mono cE fun p hp o e=>by rw [upd_ne (bD p hp)]; exact e) (hd.mono cB fun p hp o e=>by rw [upd_ne (hnew p hp).2]; exact sB _ _ e) abs
        · rcases List.mem_append.mp hp with hp | hp
          · exact hnew p hp
          · exact ⟨b1 p hp,bD p hp⟩
        · rw [ho,List.append_assoc]; rfl
        · rw [List.length_append]
          exact Nat.succ_le_succ hdl
end
section
variable {K:PySem.W.Frag} {O:Ow} {hid:Addr → Prop} {H0 H H':Hp} {σ:St} {ρ:Rho} {ow:List Addr}
end
section
variable {X:Cx} {O:Ow} {i:Nat} {pos:Pos}
end
end L2
namespace L2
open PySem PySem.Spec PyProof.Rows
variable [Reg]
noncomputable def tX (K:PySem.W.Frag) (O:Ow) (f:Rho → Option (PyData × Rho)):TE:=fun σ H Q=>At5 K O f σ H fun hid H0 ρ ow r=>∀ v H',EnvOk K O hid H0 σ H' r.2 ow → Same (del H (uni hid ow)) (del H' (uni hid ow)) → Den K (del H' (uni hid ow)) v r.1 → Q v H'
noncomputable abbrev PX (X:Cx) (O:Ow) (e:Expr) (f:Rho → Option (PyData × Rho)):Prop:=PE X e (tX X.K O f)
noncomputable def popD (i:Nat) (ρ:Rho):Option (PyData × Rho):=((ρ[i]?).join.bind listD).bind fun ds=>ds.getLast?.map fun d=>(d,ρ.set i (some (.list ds.dropLast)))
noncomputable def opL (g:PyData → PyData → Option PyData) (fa:Rho → Option (PyData × Rho)) (fb:Rho → Option PyData) (ρ:Rho):Option (PyData × Rho):=(fa ρ).bind fun r=>(fb r.2).bind fun e=>(g r.1 e).map fun d=>(d,r.2)
noncomputable def opR (g:PyData → PyData → Option PyData) (fa:Rho → Option PyData) (fb:Rho → Option (PyData × Rho)) (ρ:Rho):Option (PyData × Rho):=(fa ρ).bind fun d=>(fb ρ).bind fun r=>(g d r.1).map fun e=>(e,r.2)
noncomputable def setEff (i:Nat) (x:Option (PyData × Rho)):Option Out:=x.map fun r=>.nx (r.2.set i (some r.1))
section
variable {X:Cx} {O:Ow} {a b e:Expr} {fa fb:Rho → Option PyData} {pos:Pos}
theorem DenL.dropLast {K:PySem.W.Frag} {H:Hp} {vs:List V} {ds:List PyData} (h:DenL K H vs ds):DenL K H vs.dropLast ds.dropLast:=by
  rw [List.dropLast_eq_take,List.dropLast_eq_take,h.length]
  exact h.take _
theorem x_pop {i:Nat} {x:Str} {p apos cpos:Pos} (hx:PE X (.Name x p) (tVar i)) (hO:autoParam (O.s.lookup i = some (.lst .cl)) L2.ar._auto_1)
    (hbase:autoParam (attributeBase (.Name x p) "pop" X.env (eval (.Name x p) X.env) = eval (.Name x p) X.env) L2.ar._auto_1) (hline:autoParam ((apos.endLine == cpos.line) = true) L2.ar._auto_1) :
    PX X O (.Call (.Attribute (.Name x p) "pop" apos) [] [] cpos) (popD i):=
  (pe_bm0 PySem.F.plainAttrs_list PySem.F.slot_list_pop PySem.F.type_list_pop mt_pop (at_name hx hO) hbase hline).imp fun σ H Q zpat=>by
    obtain ⟨hid,H0,ρ,ow,r,E,hf,k⟩:=zpat
    obtain ⟨ds,g1,g2⟩:=bind_some hf
    obtain ⟨d,g3,rfl⟩:=map_some g2
    obtain ⟨dl,g4,g5⟩:=bind_some g1
    rw [listD_some g5] at g4
    refine L2.i_EEEEEEEAAAAA (hid) (H0) (ρ) (ow) (.list ds) ([]) (ds) (E) (join_some g4) (rfl) (rfl) (rfl) (fun H1 l vs s1 hH hD hl hE=>?_)
    rw [List.getLast?_eq_getElem?] at g3
    refine L2.o_EA (hD.get g3) fun y h1 h2=>?_
    rw [← hD.length] at h1
    refine L2.i_AEEEAAAA (.inl ⟨rfl,vs,SqL.of hH⟩) (l) (vs) (y) (rfl) (rfl) (hH) (h1) (k y _ (hE H1 (Same.refl _) _ _ hD.dropLast) ?_ ?_)
    · rw [del_upd (uni_in hl)]; exact del_mono s1 _
    · rw [del_upd (uni_in hl)]; exact h2
theorem x_opL {op:Operator} {rd:R2} {g:PyData → PyData → Option PyData} {fa:Rho → Option (PyData × Rho)} (ho:OpR X (binaryOp op) rd) (hg:SpecOp X.K rd g) (ha:PX X O a fa) (hb:PR X O b fb):PX X O (.BinOp a op b pos) (opL g fa fb):=
  (pe_op ho ha hb).imp fun σ H Q zpat=>by
    obtain ⟨hid,H0,ρ,ow,r,E,hf,k⟩:=zpat
    obtain ⟨r1,h1,h2⟩:=bind_some hf
    obtain ⟨y1,h3,h4⟩:=bind_some h2
    obtain ⟨d,h5,rfl⟩:=map_some h4
    exact ⟨hid,H0,ρ,ow,r1,E,h1,fun x H1 E1 s1 D1=>⟨hid,H0,r1.2,ow,y1,E1,h3,fun y H2 s2 D2=>hg x y H2 _ _ _ Q ((D1.mono (del_mono s2 _)).mono (del_same _ _)) (D2.mono (del_same _ _)) h5 fun v S=>k v H2 (E1.mono s2) (s1.trans (del_mono s2 _)) S.den⟩⟩
theorem x_opR {op:Operator} {rd:R2} {g:PyData → PyData → Option PyData} {fb:Rho → Option (PyData × Rho)} (ho:OpR X (binaryOp op) rd) (hg:SpecOp X.K rd g) (ha:PV X O a fa) (hb:PX X O b fb):PX X O (.BinOp a op b pos) (opR g fa fb):=
  (pe_op ho ha hb).imp fun σ H Q zpat=>by
    obtain ⟨hid,H0,ρ,ow,r,E,hf,k⟩:=zpat
    obtain ⟨d,h1,h2⟩:=bind_some hf
    obtain ⟨r1,h3,h4⟩:=bind_some h2
    obtain ⟨d2,h5,rfl⟩:=map_some h4
    exact ⟨hid,H0,ρ,ow,d,E,h1,fun x H1 s1 D1=>⟨hid,H0,ρ,ow,r1,E.mono s1,h3,fun y H2 E2 s2 D2=>hg x y H2 _ _ _ Q ((D1.mono s2).mono (del_same _ _)) (D2.mono (del_same _ _)) h5 fun v S=>k v H2 E2 ((del_mono s1 _).trans s2) S.den⟩⟩
theorem x_ix {fb:Rho → Option (PyData × Rho)} (ha:PV X O a fa) (hb:PX X O b fb) (hs:PlainIx b:=by intro _ _; rfl):PX X O (.Subscript a b pos) (opR ixD fa fb):=
  (pe_ix (ix_list.or ix_tup) ha hb hs).imp fun σ H Q zpat=>by
    obtain ⟨hid,H0,ρ,ow,r,E,hf,k⟩:=zpat
    obtain ⟨d,h1,h2⟩:=bind_some hf
    obtain ⟨r1,h3,h4⟩:=bind_some h2
    obtain ⟨d2,h5,rfl⟩:=map_some h4
    exact ⟨hid,H0,ρ,ow,d,E,h1,fun x H1 s1 D1=>⟨hid,H0,ρ,ow,r1,E.mono s1,h3,fun y H2 E2 s2 D2=>sp_ix x y H2 (del H2 (uni hid ow)) _ _ _ Q (del_same _ _) (D1.mono s2) D2 h5 fun v S=>k v H2 E2 ((del_mono s1 _).trans s2) S⟩⟩
theorem PV.x (h:PV X O e fa):PX X O e (fun ρ=>(fa ρ).map fun d=>(d,ρ)):=h.imp fun σ H Q zpat=>by
  obtain ⟨hid,H0,ρ,ow,r,E,hf,k⟩:=zpat
  obtain ⟨d,h1,rfl⟩:=map_some hf
  exact ⟨hid,H0,ρ,ow,d,E,h1,fun v H' s D=>k v H' (E.mono s) (del_mono s _) D⟩
theorem s_setX {i:Nat} {x:Str} {pos':Pos} {f:Rho → Option (PyData × Rho)} (hN:X.N.Nodup) (hi:X.N[i]? = some x) (hx:Loc X.env.scope x) (he:PX X O e f) (hO:autoParam (O.s.lookup i = none) L2.ar._auto_1) (hs:autoParam (swapsWith e (some (.Name x pos')) pos.line X.env = pure false) L2.ar._auto_1) (hf:X.fn x = true ∨ X.env.scope.names.lookup x = some .local:=by first | exact .inl rfl | exact .inr rfl | assumption) :
    PSv X O (.Assign [.Name x pos'] e pos) (fun ρ=>setEff i (f ρ)):=(ps_set hN hi hx he hs hf).imp fun D σ H zpat=>by
  obtain ⟨hid,H0,ρ,ow,o,E,hf,k⟩:=zpat
  obtain ⟨d,g1,rfl⟩:=map_some hf
  exact ⟨hid,H0,ρ,ow,d,E,g1,fun v H' E' s Dv=>k _ H' ow s (E'.set hO Dv)⟩
theorem x_modL {fa:Rho → Option (PyData × Rho)} (ha:PX X O a fa) (hb:PR X O b fb):PX X O (.BinOp a .Mod b pos) (opL modD fa fb):=x_opL op_modN (spI (fun _ _=>.int _) fun i j h=>of_decide_eq_true h) ha hb
theorem x_addR {fb:Rho → Option (PyData × Rho)} (ha:PV X O a fa) (hb:PX X O b fb):PX X O (.BinOp a .Add b pos) (opR addD fa fb):=x_opR op_add (spI0 fun _ _=>.int _) ha hb
end
end L2
namespace L2
open PySem PySem.Spec PyProof.Rows
variable [Reg]
section
variable {X:Cx} {O:Ow} {a b e:Expr} {fa fb:Rho → Option PyData} {pos:Pos} {l:Addr}
theorem at_nameI {i:Nat} (h:PE X e (tVar i)) (hi:autoParam (O.s.lookup i = some (.io l)) L2.ar._auto_1):PAt X O i (.io l) e (fun _=>some []):=h.imp fun σ H Q zpat=>by
  refine L2.o_EEEEEEEAAAAA (zpat) fun hid H0 ρ ow d path ds E hρ hp ht hg k=>?_
  obtain rfl:=Option.some.inj hp
  refine L2.o_EEEAAAAA (E.at hi hρ ht hg) fun v m vs h1 h2 h3 h4 h5 h6=>?_
  cases h2
  exact ⟨.ref m,h1,k H m vs (Same.refl H) h3 h4 h5 h6⟩
theorem x_popI {i:Nat} {x:Str} {p apos cpos:Pos} (hx:PE X (.Name x p) (tVar i)) (hO:autoParam (O.s.lookup i = some (.io l)) L2.ar._auto_1)
    (hbase:autoParam (attributeBase (.Name x p) "pop" X.env (eval (.Name x p) X.env) = eval (.Name x p) X.env) L2.ar._auto_1) (hline:autoParam ((apos.endLine == cpos.line) = true) L2.ar._auto_1) :
    PX X O (.Call (.Attribute (.Name x p) "pop" apos) [] [] cpos) (popD i):=
  (pe_bm0 PySem.F.plainAttrs_list PySem.F.slot_list_pop PySem.F.type_list_pop mt_pop (at_nameI hx hO) hbase hline).imp fun σ H Q zpat=>by
    obtain ⟨hid,H0,ρ,ow,r,E,hf,k⟩:=zpat
    obtain ⟨ds,g1,g2⟩:=bind_some hf
    obtain ⟨d,g3,rfl⟩:=map_some g2
    obtain ⟨dl,g4,g5⟩:=bind_some g1
    rw [listD_some g5] at g4
    refine L2.i_EEEEEEEAAAAA (hid) (H0) (ρ) (ow) (.list ds) ([]) (ds) (E) (join_some g4) (rfl) (rfl) (rfl) (fun H1 l vs s1 hH hD hl hE=>?_)
    rw [List.getLast?_eq_getElem?] at g3
    refine L2.o_EA (hD.get g3) fun y h1 h2=>?_
    rw [← hD.length] at h1
    refine L2.i_AEEEAAAA (.inl ⟨rfl,vs,SqL.of hH⟩) (l) (vs) (y) (rfl) (rfl) (hH) (h1) (k y _ (hE H1 (Same.refl _) _ _ hD.dropLast) ?_ ?_)
    · rw [del_upd (uni_in hl)]; exact del_mono s1 _
    · rw [del_upd (uni_in hl)]; exact h2
end
theorem del_eq {H:Hp} {l:Addr}:del H (fun b=>b = l) l = none:=del_in (P:=fun b=>b = l) rfl
theorem del_neq {H:Hp} {l b:Addr} (h:b ≠ l):del H (fun b=>b = l) b = H b:=del_out (P:=fun b=>b = l) h
inductive SpIO (K:PySem.W.Frag) (j:Nat) (T:Ty) (F:List PyData → Option (PyData × List PyData)) (vs:List V) (H:Hp) (Q:VK):Prop
  | mk (hid:Addr → Prop) (l:Addr) (ws:List V) (es0 ds:List PyData) (r:PyData × List PyData) (h1:∀ b,hid b → ∃ vs:OwO,H b = some vs.ho) (h2:¬ hid l) (h3:vs[j]? = some (.ref l)) (h4:H l = some (.lst ws)) (h5:DenL K (del H (uni hid [l])) ws es0)
      (h6:ds.length = vs.length) (h7:ds[j]? = some (.list es0)) (h8:∀ (i:Nat) (v:V) (d:PyData),i ≠ j → vs[i]? = some v → ds[i]? = some d → Den K (del H (uni hid [l])) v d) (h9:F ds = some r)
      (k:∀ v as H' ws',Same (del H fun b=>b = l) H' → H' l = some (.lst ws') → DenL K (del H' (uni hid (l :: as))) ws' r.2 → (∀ p ∈ as,H p = none) → DenO K H' (del H' (uni hid (l :: as))) T v r.1 as → Q v H'):SpIO K j T F vs H Q
noncomputable def spIO (K:PySem.W.Frag) (j:Nat) (T:Ty) (F:List PyData → Option (PyData × List PyData)):Sp:=fun vs H Q _=>SpIO K j T F vs H Q
inductive ThenI (K:PySem.W.Frag) (O:Ow) (l:Addr) (hid:Addr → Prop) (H0:Hp) (D:Ends) (o:Out):Prop
  | mk (d:PyData) (es:List PyData) (e:o = .rt (.tuple [d,.list es]))
      (k:∀ v as H' ws',Same H0 H' → H' l = some (.lst ws') → DenL K (del H' (uni hid (l :: as))) ws' es → (∀ p ∈ as,H0 p = none ∧ p ≠ l) → DenO K H' (del H' (uni hid (l :: as))) O.r v d as → D.rt v H'):ThenI K O l hid H0 D o
noncomputable def tI (K:PySem.W.Frag) (O:Ow) (l:Addr) (F:Rho → Option Out):TS:=fun D σ H=>At5 K O F σ H fun hid H0 ρ ow o=>ThenI K O l hid H0 D o
noncomputable abbrev PSI (X:Cx) (O:Ow) (l:Addr) (sts:List Stmt) (F:Rho → Option Out):Prop:=PSs X sts (tI X.K O l F)
noncomputable def seqI (F G:Rho → Option Out) (ρ:Rho):Option Out:=(F ρ).bind fun o=>match o with
  | .nx ρ'=>G ρ'
  | _=>none
noncomputable def retI (j:Nat) (f:Rho → Option PyData) (ρ:Rho):Option Out:=(f ρ).bind fun d=>((ρ[j]?).join.bind listD).map fun es=>.rt (.tuple [d,.list es])
section
variable {X:Cx} {O:Ow} {st:Stmt} {rest:List Stmt} {F G:Rho → Option Out} {e:Expr} {f:Rho → Option PyData} {pos:Pos} {l:Addr} {j:Nat}
theorem ss_consI (h1:PSv X O st F) (h2:PSI X O l rest G):PSI X O l (st :: rest) (seqI F G):=(pss_cons h1 h2).imp fun D σ H zpat=>by
  obtain ⟨hid,H0,ρ,ow,o,E,hf,d,es,rfl,k⟩:=zpat
  obtain ⟨o1,g1,g2⟩:=bind_some hf
  refine ⟨hid,H0,ρ,ow,o1,E,g1,?_⟩
  cases o1 with
  | nx ρ1=>exact fun σ' H' ow' s' E'=>⟨hid,H0,ρ1,ow',_,E',g2,d,es,rfl,k⟩
  | rt d=>exact L2.no_ns g2
  | bk ρ1=>exact L2.no_ns g2
  | ct ρ1=>exact L2.no_ns g2
theorem ss_retI {U:List Nat} (h:PRt X O U O.r e f) (hj:autoParam (O.s.lookup j = some (.io l)) L2.ar._auto_1) (hU:autoParam (j ∉ U) L2.ad._auto_1):PSI X O l [.Return (some e) pos] (retI j f):=(pss_one (ps_ret h)).imp fun D σ H zpat=>by
  obtain ⟨hid,H0,ρ,ow,o,E,hf,d,es,e1,k⟩:=zpat
  obtain ⟨d',g1,g2⟩:=bind_some hf
  obtain ⟨es',g3,g4⟩:=map_some g2
  rw [← g4] at e1
  injection e1 with e1
  injection e1 with e1
  injection e1 with e1 e2
  injection e2 with e2 _
  injection e2 with e2
  subst e1 e2
  obtain ⟨dl,g5,g6⟩:=bind_some g3
  rw [listD_some g6] at g5
  refine L2.o_E (E.own) fun A EA=>?_
  refine L2.o_EA (EA.1 j _ _ hj (join_some g5)) fun v0 hv D0=>?_
  generalize hA:A j = Aj at D0
  cases D0 with
  | @io _ ws _ hl q=>
    have hlA:l ∈ A j:=by rw [hA]; exact List.mem_singleton.mpr rfl
    have hlo:=EA.2.2 j l hlA
    refine L2.i_EEEEEEAAA (hid) (H0) (ρ) (ow) (d') (A) (E) (EA) (g1) (fun v as H' s n Dv=>k v as H' ws (E.baseS.trans s) (s _ _ hl) (q.mono fun b o z=>?_) (fun p hp=>⟨?_,?_⟩) (Dv.mono (del_sub fun b z=>?_) fun p _ o e=>e))
    · by_cases hb:uni hid ow b
      · rw [del_in hb] at z; cases z
      · rw [del_out hb] at z
        rw [del_out fun y=>?_]
        · exact s b o z
        · rcases y with y | y
          · exact hb (.inl y)
          · rcases List.mem_cons.mp y with rfl | y
            · exact hb (.inr hlo)
            · rcases n b y with w | ⟨i,_,w⟩
              · rw [w] at z; cases z
              · exact hb (.inr (EA.2.2 i b w))
    · rcases n p hp with w | ⟨i,_,w⟩
      · exact E.baseS.free w
      · exact E.ow0 (EA.2.2 i p w)
    · rintro rfl
      rcases n p hp with w | ⟨i,hi,w⟩
      · rw [hl] at w; cases w
      · exact EA.2.1 i j p (fun z=>hU (z ▸ hi)) w hlA
    · rcases z with z | z
      · exact .inl z
      · rcases List.mem_cons.mp z with rfl | z
        · exact .inr (List.mem_append_right _ hlo)
        · exact .inr (List.mem_append_left _ z)
end
theorem isL_some {d:PyData} {ds:List PyData} (h:isL d = some ds):d = .list ds:=by
  cases d with
  | list es=>rw [Option.some.inj h]
  | _=>exact L2.no_ns h
theorem isTu_some {d:PyData} {ds:List PyData} (h:isTu d = some ds):d = .tuple ds:=by
  cases d with
  | tuple es=>rw [Option.some.inj h]
  | _=>exact L2.no_ns h
noncomputable def outR:Out → Option PyData
  | .rt d=>some d
  | _=>none
noncomputable def outI (o:Option Out):Option (PyData × List PyData):=(o.bind outR).bind fun d=>(isTu d).bind fun ds=>(two ds).bind fun p=>(isL p.2).map fun es=>(p.1,es)
noncomputable def runI (n m:Nat) (B:Rho → Option Out) (ds:List PyData):Option (PyData × List PyData):=if ds.length = n then outI (B (ds.map some ++ List.replicate m none)) else none
theorem runI_some {n m:Nat} {B:Rho → Option Out} {ds:List PyData} {r:PyData × List PyData} (h:runI n m B ds = some r):ds.length = n ∧ B (ds.map some ++ List.replicate m none) = some (.rt (.tuple [r.1,.list r.2])):=by
  unfold runI at h
  split at h
  · refine ⟨by assumption,?_⟩
    obtain ⟨d,h0,h⟩:=bind_some h
    obtain ⟨o,h1,h2⟩:=bind_some h0
    obtain ⟨es,h3,h⟩:=bind_some h
    obtain ⟨p,h4,h⟩:=bind_some h
    obtain ⟨ls,h5,rfl⟩:=map_some h
    rw [h1]
    cases o with
    | rt e=>
      obtain rfl:=Option.some.inj h2
      rw [isTu_some h3,two_some h4,isL_some h5]
    | _=>exact L2.no_ns h2
  · exact L2.no_ns h
theorem fn_autoI {P:Program} {w:World} {K:PySem.W.Frag} {mg:Str → Option Value} {base:Heap} {x qual:Str} {st:Stmt} {f:Addr} {fd:FuncData} {N ps:List Str} {k j:Nat} {T:Ty} (O:Addr → Ow) (F:Fun K x qual st f fd) (S:FnScope N ps (defScope st))
    (hj:∀ l,(O l).s.lookup j = some (.io l)) (hr':∀ l,(O l).r = T) (idx:List Nat) (hix:∀ l,(O l).s.map (·.1) = idx) (hO:∀ i ∈ idx,i = j ∨ ps.length ≤ i) (B:Rho → Option Out)
    (hbody:∀ (l:Addr) (cdv:Value),CdOk K f cdv → ∀ (A:Around) (outer:List Env) (s:Shared) (H:Hp) (E:XK),Room k (A.deeper (envOfC qual (defScope st) s.heap.objs.size f cdv)) →
      PSI (cxOf CX0 P w K mg base N qual (defScope st) f cdv A outer s H E).nox (O l) l (defBody st) B) :
    FnOk P w K mg base CX0 (k + 1) f fd ps (spIO K j T (runI ps.length (N.length - ps.length) B)):=by
  refine fn_okC F S (fun vs H Q E h=>?_) (fun cdv hk A outer s H vs Q E hr h=>?_)
  · obtain ⟨hid,l,ws,es0,ds,r,h1,h2,h3,h4,h5,h6,h7,h8,h9,q⟩:=h
    rw [← h6]
    exact (runI_some h9).1
  · obtain ⟨hid,l,ws,es0,ds,r,h1,h2,h3,h4,h5,h6,h7,h8,h9,q⟩:=h
    refine L2.o_A (runI_some h9) fun hl hB=>?_
    refine ⟨_,hbody l cdv hk A outer s H E hr,?_⟩
    have E0:EnvOk K (O l) hid (del H fun b=>b = l) (start N vs) H (ds.map some ++ List.replicate (N.length - ps.length) none) [l]:=by
      have get:∀ (i:Nat) (d:PyData),(ds.map some ++ List.replicate (N.length - ps.length) none)[i]? = some (some d) → ds[i]? = some d ∧ ∃ v,vs[i]? = some v ∧ (start N vs)[i]? = some (some v):=fun i d e=>by
        by_cases hi:i < ds.length
        · rw [List.getElem?_append_left (by simpa using hi),List.getElem?_map] at e
          refine L2.o_EA (Option.map_eq_some_iff.mp e) fun d' e1 e2=>?_
          obtain rfl:=Option.some.inj e2
          have hv:i < vs.length:=by (clear e e1 hl h8 h7 h3 hO; omega)
          refine ⟨e1,vs[i],List.getElem?_eq_getElem hv,?_⟩
          unfold start
          rw [List.getElem?_append_left (by simpa using hv),List.getElem?_map,List.getElem?_eq_getElem hv]
          rfl
        · rw [List.getElem?_append_right (by simpa using Nat.le_of_not_lt hi),List.getElem?_replicate] at e
          split at e <;> cases e
      refine ⟨by unfold start; simp [h6,hl]; (clear get h8 h7 h3 hO; omega),fun b o e=>?_,fun i d hi e=>?_,⟨fun i=>if i = j then [l] else [],fun i t d hi e=>?_,fun i m p him hp hm=>?_,fun i p hp=>?_⟩,fun m hm=>?_,h1,fun z=>?_⟩
      · by_cases hb:b = l
        · rw [hb,del_eq] at e; cases e
        · rw [del_neq hb] at e
          rw [del_out fun z=>hb (List.mem_singleton.mp z)]
          exact e
      · refine L2.o_AEA (get i d e) fun e1 v e2 e3=>?_
        refine ⟨v,e3,h8 i v d (fun z=>?_) e2 e1⟩
        rw [z,hj l] at hi; cases hi
      · refine L2.o_AEA (get i d e) fun e1 v e2 e3=>?_
        rcases hO i (hix l ▸ lookTy_mem hi) with rfl | z
        · rw [hj l] at hi
          obtain rfl:=Option.some.inj hi
          rw [h3] at e2
          obtain rfl:=Option.some.inj e2
          rw [h7] at e1
          obtain rfl:=Option.some.inj e1
          dsimp only
          rw [if_pos rfl]
          exact ⟨_,e3,.io h4 h5⟩
        · have:=(List.getElem?_eq_some_iff.mp e1).1
          (clear e3 e2 e1 e get h8 h7 h6 h3 hO; omega)
      · dsimp only at hp hm
        split at hp
        · split at hm
          · subst_vars; exact him rfl
          · cases hm
        · cases hp
      · dsimp only at hp
        split at hp
        · exact hp
        · cases hp
      · rw [List.mem_singleton.mp hm]
        exact ⟨⟨.l ws,h4⟩,h2⟩
      · have:=hj l
        rw [z] at this
        exact L2.no_ns this
    refine ⟨hid,_,_,[l],_,E0,hB,r.1,r.2,rfl,fun v as H' ws' s' hl' hD n Dv=>q v as H' ws' s' hl' hD (fun p hp=>?_) (by rw [← hr' l]; exact Dv)⟩
    have:=(n p hp).1
    rw [del_neq (n p hp).2] at this
    exact this
end L2
namespace L2
open PySem PySem.Spec PyProof.Rows
variable [Reg]
noncomputable def DefI (P:Program) (w:World) (K:PySem.W.Frag) (mg:Str → Option Value) (base:Heap) (k:Nat) (x:Str) (ps:List Str) (j:Nat) (T:Ty) (F:List PyData → Option (PyData × List PyData)):Prop:=
  ∃ f fd,FnOk P w K mg base CX0 k f fd ps (spIO K j T F) ∧ mg x = some (.ref f) ∧ PySem.W.keepIn K (.ref f) = true ∧ Binds K fd ps [] ∧ PySem.W.nsIn K mainGlobals x = some (some (.ref f))
noncomputable def callN (F:List PyData → Option (PyData × List PyData)) (a:Option (List PyData)) (r:Option (List PyData)):Option PyData:=a.bind fun ds=>r.bind fun es=>(F (.list ds :: es)).map (·.1)
section
variable {X:Cx} {O:Ow} {a:Expr} {es:List Expr} {pos p:Pos} {fa fs:Rho → Option (List PyData)} {k:Nat} {ps:List Str} {x:Str} {T:Ty} {F:List PyData → Option (PyData × List PyData)}
theorem ft_callN (G:DefI X.prog X.w X.K X.mg X.base k x ps 0 T F) (hr:Room k X.A) (hg:Gl X x) (ha:PFc X O a fa) (hes:PAv X O es fs) (hdb:autoParam ((x == ("__debug__":Str)) = false) L2.ad._auto_1) (he:autoParam (starEach (a :: es) X.env = (false,eval a X.env) :: starEach es X.env) L2.ar._auto_1) (hpl:autoParam ((backTo pos (starEach es X.env)).any (·.1) = false) L2.ar._auto_1) :
    PFt X O T (.Call (.Name x p) (a :: es) [] pos) (fun ρ=>callN F (fa ρ) (fs ρ)):=by
  refine L2.o_EEAAAA (G) fun f fd g1 g2 g3 g4 _=>?_
  exact (pe_call g1 hr hg g2 g3 g4 .nil pass0 (pa_cons ha hes he) hdb he hpl).imp fun σ H Q zpat=>by
    obtain ⟨hid,H0,ρ,ow,d,E,hf,k⟩:=zpat
    obtain ⟨ds,e1,hf⟩:=bind_some hf
    obtain ⟨rs,e2,hf⟩:=bind_some hf
    obtain ⟨r,e3,rfl⟩:=map_some hf
    refine ⟨hid,H0,ρ,ow,ds,E,e1,fun l vs H1 s1 n1 q1 D1=>?_⟩
    have E1:=E.hide s1 [l] fun p hp=>⟨.l vs,by rw [List.mem_singleton.mp hp]; exact q1⟩
    refine ⟨hid2 hid H [l],H0,ρ,ow,rs,E1,e2,fun us H2 s2 D2=>?_⟩
    have sub:∀ b,uni (uni hid ow) [l] b → uni (hid2 hid H [l]) ow b:=fun b z=>by
      rcases z with (z | z) | z
      · exact .inl (.inl z)
      · exact .inr z
      · exact .inl (.inr ⟨z,by rw [List.mem_singleton.mp z]; exact n1⟩)
    have E2:=(E.mono s1).mono s2
    refine ⟨uni hid ow,l,vs,ds,.list ds :: rs,r,E2.uniL,E.fresh n1,rfl,s2 _ _ q1,?_,?_,rfl,fun i v d hi hv hd=>?_,e3,fun v as H3 ws' s3 hl3 hD n3 Dv=>?_⟩
    · refine (D1.mono (del_mono s2 _)).mono (del_sub fun b z=>?_)
      rcases z with (z | z) | z
      · exact .inl z
      · exact .inr (List.mem_cons_of_mem _ z)
      · exact .inr (by rw [List.mem_singleton.mp z]; exact List.mem_cons_self)
    · rw [List.append_nil,List.length_cons,List.length_cons,D2.length]
    · rw [List.append_nil] at hv
      cases i with
      | zero=>exact absurd rfl hi
      | succ i=>
        refine L2.o_EA (D2.get (show rs[i]? = some d from by simpa using hd)) fun v' h1 h2=>?_
        have:us[i]? = some v:=by simpa using hv
        rw [h1] at this
        obtain rfl:=Option.some.inj this
        exact h2.mono (del_sub sub)
    · refine k v as H3 (fun b o e=>s3 b o ?_) (fun p hp=>(s1.trans s2).free (n3 p hp)) (Dv.mono (del_sub fun b z=>?_) fun p _ o e=>e)
      · rw [del_neq (ne_of_none e n1)]
        exact s2 b o (s1 b o e)
      · rcases z with z | z
        · exact .inl (.inl z)
        · rcases List.mem_append.mp z with z | z
          · exact .inr (List.mem_cons_of_mem _ z)
          · exact .inl (.inr z)
end
end L2
namespace L2
open PySem PySem.Spec PyProof.Rows
variable [Reg]
section
variable {X:Cx} {O:Ow} {a b e:Expr} {fa fb f:Rho → Option PyData} {pos p:Pos}
end
section
variable {K:PySem.W.Frag} {O:Ow} {hid:Addr → Prop} {H0 H H':Hp} {σ:St} {ρ:Rho} {ow:List Addr}
end
section
variable {X:Cx} {O:Ow} {e:Expr} {f:Rho → Option PyData} {pos:Pos} {T:Ty}
end
end L2
namespace L2
open PySem PySem.Spec PyProof.Rows
variable [Reg]
noncomputable def lookD (f:Str):List PyData → List PyData → Option PyData
  | .str n :: ns,d :: ds=>if n = f then some d else lookD f ns ds
  | _,_=>none
noncomputable def fldD (cls f:Str):PyData → Option PyData
  | .dict [(.bool false,.str c),(.none,.tuple ns),(.none,.tuple fd)]=>if c = cls then lookD f ns fd else none
  | _=>none
theorem lookD_some {K:PySem.W.Frag} {H:Hp} {f:Str} {r:PyData}:∀ {fs:List (Str × V)} {fd:List PyData},DenL K H (fs.map (·.2)) fd → lookD f ((fs.map (·.1)).map .str) fd = some r → ∃ w,fs.lookup f = some w ∧ Den K H w r
  | [],fd,_,h=>by cases h
  | (n,v) :: fs,fd,D,h=>by
    cases D with
    | cons D1 D2=>
      rename_i d ds
      have h':(if n = f then some d else lookD f ((fs.map (·.1)).map .str) ds) = some r:=h
      by_cases e:n = f
      · rw [if_pos e] at h'
        cases h'
        exact ⟨v,by rw [List.lookup_cons,e,beq_self_eq_true],D1⟩
      · rw [if_neg e] at h'
        refine L2.o_EA (lookD_some D2 h') fun w h1 h2=>?_
        refine ⟨w,?_,h2⟩
        rw [List.lookup_cons,show (f == n) = false from beq_eq_false_iff_ne.mpr (Ne.symm e)]
        exact h1
theorem den_fld {K:PySem.W.Frag} {H:Hp} {v:V} {d r:PyData} {cls f:Str} (h:Den K H v d) (q:fldD cls f d = some r):∃ a C dx fs w,v = .ref a ∧ H a = some (.ins C dx fs) ∧ PySem.W.nsIn K mainGlobals cls = some (some (.ref C)) ∧ fs.lookup f = some w ∧ Den K H w r:=by
  cases h with
  | @obj a c fs fd h D=>
    have q':(if c = cls then lookD f ((fs.map (·.1)).map .str) fd else none) = some r:=q
    by_cases e:c = cls
    · rw [if_pos e] at q'
      subst e
      refine L2.o_EEA (h) fun C dx h1 h2=>?_
      refine L2.o_EA (lookD_some D q') fun w h3 h4=>?_
      exact L2.i_EEEEEAAAA (a) (C) (dx) (fs) (w) (rfl) (h1) (h2) (h3) (h4)
    · rw [if_neg e] at q'; cases q'
  | _=>cases q
noncomputable def FldOk (K:PySem.W.Frag) (cls f:Str):Prop:=∀ C,PySem.W.nsIn K mainGlobals cls = some (some (.ref C)) → Cls K C ∧ NoAttr K C f
section
variable {X:Cx} {O:Ow} {a e:Expr} {fa f:Rho → Option PyData} {pos p:Pos} {cls fld:Str}
theorem r_fld (hC:FldOk X.K cls fld) (ha:PR X O a fa) (hb:autoParam (attributeBase a fld X.env (eval a X.env) = eval a X.env) L2.ar._auto_1):PR X O (.Attribute a fld pos) (fun ρ=>(fa ρ).bind (fldD cls fld)):=
  (pe_fld ha hb).imp fun σ H Q zpat=>by
    obtain ⟨hid,H0,ρ,ow,r,E,hf,k⟩:=zpat
    obtain ⟨d,h1,h2⟩:=bind_some hf
    refine ⟨hid,H0,ρ,ow,d,E,h1,fun x H1 s1 D1=>?_⟩
    refine L2.o_EEEEEAAAA (den_fld D1 h2) fun a' C dx fs w zq5 g1 g2 g3 g4=>?_
    subst zq5
    exact L2.i_EEEEEAAAAA (a') (C) (dx) (fs) (w) (rfl) (del_same _ _ _ _ g1) ((hC C g2).1) ((hC C g2).2) (g3) (k w H1 s1 g4)
theorem v_fld (hC:FldOk X.K cls fld) (ha:PV X O a fa) (hb:autoParam (attributeBase a fld X.env (eval a X.env) = eval a X.env) L2.ar._auto_1):PV X O (.Attribute a fld pos) (fun ρ=>(fa ρ).bind (fldD cls fld)):=
  (pe_fld ha hb).imp fun σ H Q zpat=>by
    obtain ⟨hid,H0,ρ,ow,r,E,hf,k⟩:=zpat
    obtain ⟨d,h1,h2⟩:=bind_some hf
    refine ⟨hid,H0,ρ,ow,d,E,h1,fun x H1 s1 D1=>?_⟩
    refine L2.o_EEEEEAAAA (den_fld D1 h2) fun a' C dx fs w zq5 g1 g2 g3 g4=>?_
    subst zq5
    exact L2.i_EEEEEAAAAA (a') (C) (dx) (fs) (w) (rfl) (del_same _ _ _ _ g1) ((hC C g2).1) ((hC C g2).2) (g3) (k w H1 s1 g4)
end
theorem SqT.cut {K:PySem.W.Frag} {G G':Hp} (e:∀ a o,G a = some o → (∀ C dx fs,o ≠ .ins C dx fs) → G' a = some o) {a:Addr} {vs:List V} (q:SqT K G a vs):SqT K G' a vs:=by
  rcases q with (q | ⟨o,q⟩) | q
  · exact .inl (.inl (e _ _ q fun _ _ _ z=>by cases z))
  · exact .inl (.inr ⟨o,e _ _ q fun _ _ _ z=>by cases z⟩)
  · exact .inr q
theorem Den.cut {K:PySem.W.Frag} {G G':Hp} (e:∀ a o,G a = some o → (∀ C dx fs,o ≠ .ins C dx fs) → G' a = some o) {v:V} {d:PyData} (z:Den K G v d):lf d = true → Den K G' v d:=
  Den.rec (motive_1:=fun v d _=>lf d = true → Den K G' v d) (motive_2:=fun vs ds _=>lf.go ds = true → DenL K G' vs ds) (fun _=>.non) (fun b _=>.bl b) (fun i _=>.int i) (fun x _=>.str x) (fun q _ r h=>.tup (q.cut e) (r h)) (fun _ _ _ h=>by cases h) (fun _ _ _ h=>by cases h) (fun _ _ _ h=>by cases h) (fun _ _ _ h=>by cases h) (fun _=>.nil) (fun _ _ a b h=>by rw [lf.go,Bool.and_eq_true] at h; exact .cons (a h.1) (b h.2)) z
inductive KB (K:PySem.W.Frag) (x:Addr) (f1 f2:Str) (B:Rho → Option (PyData × PyData)) (D:Ends) (σ:St) (H:Hp):Prop
  | mk (hid:Addr → Prop) (H0:Hp) (ρ:Rho) (r:PyData × PyData) (C dx:Addr) (E:EnvOk K O0 hid H0 σ H ρ []) (hx:σ[0]? = some (some (.ref x))) (hH:H x = some (.ins C dx [])) (hc:Cls K C) (n1:NoAttr K C f1) (n2:NoAttr K C f2) (hB:B ρ = some r) (l1:lf r.1 = true) (l2:lf r.2 = true)
      (k:∀ σ' H' v1 v2,Same (del H fun b=>b = x) H' → H' x = some (.ins C dx [(f1,v1),(f2,v2)]) → Den K (del H' fun b=>hid b ∨ b = x) v1 r.1 → Den K (del H' fun b=>hid b ∨ b = x) v2 r.2 → D.nx σ' H'):KB K x f1 f2 B D σ H
section
variable {X:Cx} {e:Expr} {st:Stmt} {rest:List Stmt} {f:Rho → Option PyData} {pos:Pos} {x:Addr} {f1 f2:Str} {B:Rho → Option (PyData × PyData)}
end
inductive SpNew (K:PySem.W.Frag) (cls f1 f2:Str) (F:List PyData → Option (PyData × PyData)) (vs:List V) (H:Hp) (Q:VK):Prop
  | mk (hid:Addr → Prop) (x dx C:Addr) (us:List V) (ds:List PyData) (r:PyData × PyData) (e:vs = .ref x :: us) (hH:H x = some (.ins C dx [])) (hn:PySem.W.nsIn K mainGlobals cls = some (some (.ref C))) (h1:∀ b,hid b → ∃ vs:OwO,H b = some vs.ho) (D:DenL K (del H hid) us ds) (hF:F ds = some r)
      (k:∀ H' v1 v2,Same (del H fun b=>b = x) H' → H' x = some (.ins C dx [(f1,v1),(f2,v2)]) → Den K (del H' fun b=>hid b ∨ b = x) v1 r.1 → Den K (del H' fun b=>hid b ∨ b = x) v2 r.2 → Q .non H'):SpNew K cls f1 f2 F vs H Q
noncomputable def spNew (K:PySem.W.Frag) (cls f1 f2:Str) (F:List PyData → Option (PyData × PyData)):Sp:=fun vs H Q _=>SpNew K cls f1 f2 F vs H Q
noncomputable def DefN (P:Program) (w:World) (K:PySem.W.Frag) (mg:Str → Option Value) (base:Heap) (k:Nat) (cls:Str) (ps:List Str) (f1 f2:Str) (F:List PyData → Option (PyData × PyData)):Prop:=
  ∃ C f fd,Mk K C f ∧ FnOk P w K mg base CX0 k f fd ps (spNew K cls f1 f2 F) ∧ mg cls = some (.ref C) ∧ PySem.W.nsIn K mainGlobals cls = some (some (.ref C)) ∧ Binds K fd ps []
section
variable {X:Cx} {O:Ow} {a:Expr} {es:List Expr} {pos p:Pos} {fs:Rho → Option (List PyData)} {k:Nat} {ps:List Str} {cls f1 f2:Str} {F:List PyData → Option (PyData × PyData)}
end
end L2
namespace L2
open PySem PySem.Spec PyProof.Rows
variable [Reg]
noncomputable def veil (ks:List Nat) (ρ:Rho):Rho:=ks.foldl (fun r i=>r.set i none) ρ
noncomputable def veilF (ks:List Nat) (f:Rho → Option PyData) (ρ:Rho):Option PyData:=f (veil ks ρ)
theorem veil_len:∀ (ks:List Nat) (ρ:Rho),(veil ks ρ).length = ρ.length
  | [],_=>rfl
  | k :: ks,ρ=>by
    show (veil ks (ρ.set k none)).length = _
    rw [veil_len ks,List.length_set]
theorem veil_get:∀ (ks:List Nat) (ρ:Rho) (i:Nat) (d:PyData),(veil ks ρ)[i]? = some (some d) → i ∉ ks ∧ ρ[i]? = some (some d)
  | [],ρ,i,d,h=>⟨by simp,h⟩
  | k :: ks,ρ,i,d,h=>by
    refine L2.o_A (veil_get ks (ρ.set k none) i d h) fun h1 h2=>?_
    by_cases e:i = k
    · subst e
      have hl:=(List.getElem?_eq_some_iff.mp h2).1
      rw [List.length_set] at hl
      rw [List.getElem?_set_self hl] at h2
      cases h2
    · rw [List.getElem?_set_ne (Ne.symm e)] at h2
      exact ⟨fun z=>(List.mem_cons.mp z).elim e h1,h2⟩
theorem look_none:∀ {l:List (Nat × Ty)} {i:Nat},i ∉ l.map (·.1) → l.lookup i = none
  | [],_,_=>rfl
  | (j,t) :: r,i,h=>by
    rw [List.lookup_cons,show (i == j) = false from beq_eq_false_iff_ne.mpr fun z=>h (by rw [z]; exact List.mem_cons_self)]
    exact look_none fun z=>h (List.mem_cons_of_mem _ z)
theorem EnvOk.veil {K:PySem.W.Frag} {O:Ow} {hid:Addr → Prop} {H0 H:Hp} {σ:St} {ρ:Rho} {ow:List Addr} (E:EnvOk K O hid H0 σ H ρ ow):EnvOk K O0 (uni hid ow) H σ H (L2.veil (O.s.map (·.1)) ρ) []:=by
  refine ⟨by rw [veil_len]; exact E.len,fun b o e=>by rw [del_out (by simp)]; exact e,fun i d _ e=>?_,⟨fun _=>[],fun i t d hi _=>(by cases hi),fun i j p _ z=>(by cases z),fun i p z=>(by cases z)⟩,fun l z=>(by cases z),E.uniL,fun _=>rfl⟩
  refine L2.o_A (veil_get _ _ _ _ e) fun h1 h2=>?_
  refine L2.o_EA (E.val i d (look_none h1) h2) fun v h3 h4=>?_
  exact ⟨v,h3,by rw [uni_nil]; exact h4⟩
theorem uni_uni {hid:Addr → Prop} {ow as:List Addr}:uni (uni hid ow) (as ++ []) = uni hid (as ++ ow):=by
  funext b
  apply propext
  rw [List.append_nil]
  constructor
  · rintro ((z | z) | z)
    · exact .inl z
    · exact .inr (List.mem_append_right _ z)
    · exact .inr (List.mem_append_left _ z)
  · rintro (z | z)
    · exact .inl (.inl z)
    · rcases List.mem_append.mp z with z | z
      · exact .inr z
      · exact .inl (.inr z)
section
variable {X:Cx} {O:Ow} {e:Expr} {f:Rho → Option PyData} {T:Ty}
theorem veil_imp {K:PySem.W.Frag}:∀ σ H Q,tFt K O T (fun ρ=>f (veil (O.s.map (·.1)) ρ)) σ H Q → tFt K O0 T f σ H Q:=fun σ H Q zpat=>by
  obtain ⟨hid,H0,ρ,ow,d,E,hf,k⟩:=zpat
  exact ⟨uni hid ow,H,_,[],d,E.veil,hf,fun v as H' s n D=>k v as H' s n (by rw [uni_uni] at D; exact D)⟩
theorem PFt.v (h:PFt X O T e f):PV X O e f:=h.imp fun σ H Q zpat=>by
  obtain ⟨hid,H0,ρ,ow,d,E,hf,k⟩:=zpat
  refine ⟨hid,H0,ρ,ow,d,E,hf,fun v as H' s n D=>k v H' s (D.raw (del_sub fun b z=>?_) fun p hp o q=>?_)⟩
  · rcases z with z | z
    · exact .inl z
    · exact .inr (List.mem_append_right _ z)
  · rw [del_out (E.fresh (n p hp))]
    exact q
theorem PFt.fc (h:PFt X O (.lst .cl) e f):PFc X O e (fun ρ=>(f ρ).bind listD):=h.imp fun σ H Q zpat=>by
  obtain ⟨hid,H0,ρ,ow,ds,E,hf,k⟩:=zpat
  obtain ⟨d,h1,h2⟩:=bind_some hf
  rw [listD_some h2] at h1
  refine ⟨hid,H0,ρ,ow,_,E,h1,fun v as H' s n D=>?_⟩
  cases D with
  | @lst _ l vs _ as q r m=>
    refine L2.o_A (r.dl) fun dl zq1=>?_
    subst zq1
    exact k l vs H' s (n l List.mem_cons_self) q dl
end
section
variable {X:Cx} {O:Ow} {i:Nat} {x:Str} {pos' spos:Pos} {elt tg iter:Expr} {ifs:List Expr} {scope:Scope} {pos:Pos} {fi:Rho → Option (List PyData)} {S:PyData → Rho → Option Rho} {ft:Rho → Option Bool} {fe:Rho → Option PyData} {k:Nat} {N:List Str} {ix:List Nat} {T:Ty}
theorem s_setCF (hN:X.N.Nodup) (hi':X.N[i]? = some x) (hx':Loc X.env.scope x) (sc:Scope) (hsc:X.env.scope = sc) (C:CompSc sc X.N scope k N ix)
    (hx:X.xe = fun _ _=>False) (hc:X.calm = true) (hi:PIr X O0 tg iter fi)
    (hg:∀ cl C s3 H3 fp pins,PGv (cxComp X N scope cl C s3 H3 fp pins) O0 tg S) (ht:∀ cl C s3 H3 fp pins,PIfv (cxComp X N scope cl C s3 H3 fp pins) ifs ft) (he:∀ cl C s3 H3 fp pins,PFt (cxComp X N scope cl C s3 H3 fp pins) O0 T elt fe) (hO:autoParam (O.s.lookup i = some (.lst T)) L2.ar._auto_1)
    (hsw:autoParam (swapsWith (.ListComp elt [⟨tg,iter,ifs,0⟩] scope pos) (some (.Name x pos')) spos.line X.env = pure true) L2.ar._auto_1) (hf:X.fn x = true ∨ X.env.scope.names.lookup x = some .local:=by first | exact .inl rfl | exact .inr rfl | assumption)
    (hs:∀ x,foldedSetIterable iter X.env x = pure x:=by intro _; rfl):PSv X O (.Assign [.Name x pos'] (.ListComp elt [⟨tg,iter,ifs,0⟩] scope pos) spos) (fun ρ=>setO i ρ (veilF (O.s.map (·.1)) (fun ρ=>(compO S ft fe (fi ρ) (frees k ix ρ)).map .list) ρ)):=
  s_asgT ((ps_setC (g:=tG X.K O0 S) (tc:=tT X.K O0 ft) (te:=tFt X.K O0 T fe) hN hi' hx' sc hsc C hx hc hi hg ht he hsw hf hs).imp fun D σ H h=>comp_impT rfl σ H _ (veil_imp σ H _ h)) (.inl hO)
end
noncomputable def clsBody (s:Stmt):List Stmt:=match s with
  | .ClassDef _ _ _ b _ _ _ _ _ _ _=>b
  | _=>[]
inductive ClsAt (K:PySem.W.Frag) (cls:Str) (st:Stmt) (f1 f2:Str):Prop
  | mk (C f:Addr) (fd:FuncData) (a:PySem.W.nsIn K mainGlobals cls = some (some (.ref C))) (m1:PySem.W.makesIn K C = true) (m2:PySem.W.findIn K (.ref C) "__init__" = some (some (.ref f))) (m3:PySem.W.isFn K (.ref f) = true) (m4:PySem.W.keepIn K (.ref C) = true)
      (c1:PySem.W.plainGet K C Str.empty = true) (c2:PySem.W.hasDictIn K C = true) (c3:PySem.W.plainOver K C = true) (c4:PySem.W.findIn K (.ref C) "__setattr__" = some (some (.builtin "object.__setattr__"))) (n1:PySem.W.findIn K (.ref C) f1 = some none) (n2:PySem.W.findIn K (.ref C) f2 = some none)
      (F:Fun K "__init__" (cls ++ ".__init__") st f fd):ClsAt K cls st f1 f2
section
variable {P:Program} {w:World} {K:PySem.W.Frag} {h:Heap} {mg:Str → Option Value} {base:Heap} {cls f1 f2:Str} {st:Stmt} {k:Nat} {ps:List Str}
theorem ClsAt.ok {F:List PyData → Option (PyData × PyData)} (d:ClsAt K cls st f1 f2) (X:K.In h) (G:h.Ns mainGlobals mg)
    (hb:∀ (kV doc pm:Value) (an:Option Addr) (cdv ct:Value) (us:List Value),us.length = ps.length → bindArgs (PySem.W.fnOf "__init__" (cls ++ ".__init__") (defArgs st) (defBody st) (defScope st) .none kV doc pm an cdv ct) ⟨us,[]⟩ = pure (ps.zip us))
    (ok:∀ f fd,Fun K "__init__" (cls ++ ".__init__") st f fd → FnOk P w K mg base CX0 k f fd ps (spNew K cls f1 f2 F)):DefN P w K mg base k cls ps f1 f2 F:=by
  cases d with
  | mk C f fd a m1 m2 m3 m4 c1 c2 c3 c4 n1 n2 D=>exact ⟨C,f,fd,⟨m1,m2,m3,m4⟩,ok f fd D,PySem.W.mg_of X G a,a,D.binds hb⟩
end
end L2
namespace L2
open PySem PySem.Spec PyProof.Rows
variable [Reg]
inductive FnAt (K:PySem.W.Frag) (x:Str) (st:Stmt):Prop
  | mk (f:Addr) (fd:FuncData) (a:PySem.W.nsIn K mainGlobals x = some (some (.ref f))) (F:Fun K x x st f fd):FnAt K x st
section
variable {P:Program} {w:World} {K:PySem.W.Frag} {h:Heap} {mg:Str → Option Value} {base:Heap} {x:Str} {st:Stmt} {k:Nat} {ps:List Str} {T:Ty}
theorem FnAt.ok {F:List PyData → Option PyData} (d:FnAt K x st) (X:K.In h) (G:h.Ns mainGlobals mg)
    (hb:∀ (kV doc pm:Value) (an:Option Addr) (cdv ct:Value) (us:List Value),us.length = ps.length → bindArgs (PySem.W.fnOf x x (defArgs st) (defBody st) (defScope st) .none kV doc pm an cdv ct) ⟨us,[]⟩ = pure (ps.zip us))
    (ok:∀ f fd,PySem.W.nsIn K mainGlobals x = some (some (.ref f)) → Fun K x x st f fd → FnOk P w K mg base CX0 k f fd ps (spR K T F)):DefOk P w K mg base k x ps T F:=by
  cases d with
  | mk f fd a D=>exact ⟨f,fd,ok f fd a D,PySem.W.mg_of X G a,D.kp,D.binds hb,a⟩
theorem FnAt.law {F:List PyData → Option PyData} {fa:Addr} {v0:Str} (d:FnAt K x st) (X:K.In h) (G:h.Ns mainGlobals mg) (hfa:mg x = some (.ref fa))
    (hb:∀ (kV doc pm:Value) (an:Option Addr) (cdv ct:Value) (s:Shared) (v:Value),BindsTo s (PySem.W.fnOf x x (defArgs st) (defBody st) (defScope st) .none kV doc pm an cdv ct) ⟨[v],[]⟩ [(v0,v)])
    (ok:∀ base f fd,Fun K x x st f fd → FnOk P w K mg base CX0 k f fd ps (spR K T F)) :
    ∃ fd:FuncData,(∀ (s:Shared) (v:Value),BindsTo s fd ⟨[v],[]⟩ [(v0,v)]) ∧ ∀ base:Heap,K.In base → base.Ns mainGlobals mg → FnOk P w K mg base CX0 k fa fd ps (spR K T F):=by
  cases d with
  | mk f fd a D=>
    cases hfa.symm.trans (PySem.W.mg_of X G a)
    refine ⟨fd,?_,fun base _ _=>ok base _ fd D⟩
    refine L2.o_EEEEEEEEEAA (D.ex) fun oc od kV doc pm an cdv ct osl e _ _=>?_
    subst e
    exact hb kV doc pm an cdv ct
end
noncomputable def noName (K:PySem.W.Frag) (x:Str):Bool:=match PySem.W.nsIn K mainGlobals x with
  | some none=>true
  | _=>false
noncomputable def noNames (K:PySem.W.Frag) (xs:List Str):Bool:=xs.all (noName K)
theorem noNames_get {K:PySem.W.Frag} {h:Heap} {mg:Str → Option Value} {xs:List Str} {x:Str} (X:K.In h) (G:h.Ns mainGlobals mg) (q:noNames K xs = true) (i:Nat) (hi:xs[i]? = some x):mg x = none:=by
  have h1:=List.all_eq_true.mp q x (List.mem_of_getElem? hi)
  refine PySem.W.mg_none_of X G ?_
  unfold noName at h1
  generalize PySem.W.nsIn K mainGlobals x = o at h1 ⊢
  cases o with
  | none=>exact L2.no_ft h1
  | some v=>cases v with
    | none=>rfl
    | some v=>exact L2.no_ft h1
end L2
namespace L2
open PySem PySem.Spec PyProof.Rows
noncomputable def bd (a:Int) (n:Nat):Prop:=a.natAbs < 2 ^ n
theorem bd.mono {a:Int} {m n:Nat} (h:bd a m) (hn:m ≤ n):bd a n:=Nat.lt_of_lt_of_le h (Nat.pow_le_pow_right (by decide) hn)
theorem bd.mul {a b:Int} {m n:Nat} (h:bd a m) (h':bd b n):bd (a * b) (m + n):=by
  unfold bd at *
  rw [Int.natAbs_mul,Nat.pow_add]
  exact Nat.mul_lt_mul'' h h'
theorem bd.add {a b:Int} {n:Nat} (h:bd a n) (h':bd b n):bd (a + b) (n + 1):=Nat.lt_of_le_of_lt (Int.natAbs_add_le a b) (by rw [Nat.pow_succ,Nat.mul_two]; exact Nat.add_lt_add h h')
theorem bd.sub {a b:Int} {n:Nat} (h:bd a n) (h':bd b n):bd (a - b) (n + 1):=by
  rw [Int.sub_eq_add_neg]
  exact bd.add h (show (-b).natAbs < 2 ^ n from by rw [Int.natAbs_neg]; exact h')
theorem bd.big {a:Int} {n:Nat} (h:bd a n) (hn:n ≤ 1000):isBig a = true:=by
  unfold isBig L2.big
  exact decide_eq_true (h.mono hn)
theorem testD_s (b:Bool):testD (some (.bool b)) = some b:=rfl
theorem condO_t {α:Type} (a b:Option α):condO (some true) a b = a:=rfl
theorem condO_f {α:Type} (a b:Option α):condO (some false) a b = b:=rfl
theorem compO_s {S:PyData → Rho → Option Rho} {ft:Rho → Option Bool} {fe:Rho → Option PyData} {ds:List PyData} {ρ:Rho} (h:ds.length ≤ 1000):compO S ft fe (some ds) ρ = compD S ft fe ds ρ:=by
  unfold compO
  rw [Option.bind_some,if_pos (decide_eq_true h)]
theorem bind2_ss (x y:PyData) (g:PyData → PyData → Option PyData):bind2 (some x) (some y) g = g x y:=rfl
theorem fdivD_ok {a b:Int} (h0:0 < b) (hb:isBig b = true):fdivD (.int a) (.int b) = some (.int (a / b)):=by
  have:b ≠ 0:=by omega
  simp [fdivD,int2C,intO,hb,this,Int.fdiv_eq_ediv_of_nonneg a (by (clear this; omega):0 ≤ b)]
theorem modD_ok {a b:Int} (h0:0 < b):modD (.int a) (.int b) = some (.int (a % b)):=by
  have:b ≠ 0:=by omega
  simp [modD,int2C,intO,this,Int.fmod_eq_emod_of_nonneg a (by (clear this; omega):0 ≤ b)]
theorem subD_ok (a b:Int):subD (.int a) (.int b) = some (.int (a - b)):=rfl
theorem ltD_ok (a b:Int):ltD (.int a) (.int b) = some (.bool (decide (a < b))):=rfl
theorem gtD_ok (a b:Int):gtD (.int a) (.int b) = some (.bool (decide (b < a))):=rfl
theorem shaped_int (a:Int):SeqAt.shaped (.int a) = true:=by simp [SeqAt.shaped,PyData.canLay0,PyData.depth]
theorem eqD_int (a b:Int):eqD (.int a) (.int b) = some (.bool (a == b)):=by simp [eqD,shaped_int,PyData.eqv]
theorem filt {α:Type} {p:α → Bool} {x:α} (h:p x = true):(some x).filter p = some x:=by rw [Option.filter_some,if_pos h]
noncomputable def encP (p:Int × Int):PyData:=.tuple [.int p.1,.int p.2]
noncomputable def encL (ps:List (Int × Int)):PyData:=.list (ps.map encP)
theorem canLay_encs:∀ ps:List (Int × Int),PyData.canLayAll0 (ps.map encP) = true ∧ PyData.depthAll (ps.map encP) ≤ 1
  | []=>by simp [PyData.canLayAll0,PyData.depthAll]
  | p :: r=>by
    obtain ⟨h1,h2⟩:=canLay_encs r
    simp [PyData.canLayAll0,PyData.depthAll,encP,PyData.canLay0,PyData.depth,h1]
    exact Nat.max_le.mpr ⟨Nat.le_refl _,h2⟩
theorem eqv_encP (p q:Int × Int):PyData.eqv (encP p) (encP q) = decide (p = q):=by
  obtain ⟨a,b⟩:=p
  obtain ⟨c,d⟩:=q
  rw [Bool.eq_iff_iff]
  simp [encP,PyData.eqv,PyData.eqvAll]
theorem eqv_encs:∀ ps qs:List (Int × Int),PyData.eqvAll (ps.map encP) (qs.map encP) = decide (ps = qs)
  | [],[]=>by simp [PyData.eqvAll]
  | [],_ :: _=>by simp [PyData.eqvAll]
  | _ :: _,[]=>by simp [PyData.eqvAll]
  | p :: r,q :: t=>by
    rw [List.map_cons,List.map_cons,PyData.eqvAll,eqv_encP,eqv_encs r t,Bool.eq_iff_iff]
    simp
theorem rng1_ok {n:Int} (h0:0 ≤ n) (h1:n < 1000):rng1D [.int n] = some (rngL 0 n.toNat):=by
  exact (show (if decide (n.natAbs < 2 ^ 61) = true then some (rngL 0 n.toNat) else none) = _ from if_pos (decide_eq_true (by omega)))
theorem rngL_get {n i:Nat} {d:PyData} (h:(rngL 0 n)[i]? = some d):i < n ∧ d = .int (i:Nat):=by
  unfold rngL at h
  rw [List.getElem?_map] at h
  cases e:(List.range n)[i]? with
  | none=>rw [e] at h; cases h
  | some j=>
    rw [e] at h
    obtain ⟨h1,h2⟩:=List.getElem?_eq_some_iff.mp e
    have h3:i = j:=by simpa using h2
    subst h3
    have h4:PyData.int (0 + (i:Nat)) = d:=Option.some.inj h
    exact ⟨by simpa using h1,by rw [← h4,Int.zero_add]⟩
theorem forD_inv {S:PyData → Rho → Option Rho} {F:Rho → Option Out} (I:Nat → Rho → Prop):∀ (ds:List PyData) (k:Nat) (ρ:Rho),I k ρ →
    (∀ (i:Nat) (d:PyData) (ρ:Rho),ds[i]? = some d → I (k + i) ρ → ∃ ρ1 ρ2,S d ρ = some ρ1 ∧ F ρ1 = some (.nx ρ2) ∧ I (k + i + 1) ρ2) → ∃ ρ',forD S F ds ρ = some (.nx ρ') ∧ I (k + ds.length) ρ'
  | [],k,ρ,h,_=>⟨ρ,rfl,h⟩
  | d :: r,k,ρ,h,step=>by
    obtain ⟨ρ1,ρ2,h1,h2,h3⟩:=step 0 d ρ rfl h
    obtain ⟨ρ',h4,h5⟩:=forD_inv I r (k + 1) ρ2 h3 fun i d' ρ' hd hi=>by
      have:=step (i + 1) d' ρ' (by simpa using hd) (by rw [show k + (i + 1) = k + 1 + i by (clear hd step; omega)]; exact hi)
      rwa [show k + (i + 1) + 1 = k + 1 + i + 1 by (clear hd step; omega)] at this
    refine ⟨ρ',?_,?_⟩
    · rw [forD,h1,Option.bind_some,h2,Option.bind_some]
      exact h4
    · rw [List.length_cons,show k + (r.length + 1) = k + 1 + r.length by (clear step; omega)]
      exact h5
theorem compD_map {α β:Type} {S:PyData → Rho → Option Rho} {fe:Rho → Option PyData} (ea:α → PyData) (eb:β → PyData) (g:α → β) (R:Rho → Prop) (ok:α → Prop)
    (hS:∀ x ρ,ok x → R ρ → ∃ ρ1,S (ea x) ρ = some ρ1 ∧ R ρ1 ∧ fe ρ1 = some (eb (g x))):∀ (xs:List α) (ρ:Rho),R ρ → (∀ x ∈ xs,ok x) → compD S (fun _=>some true) fe (xs.map ea) ρ = some ((xs.map g).map eb)
  | [],ρ,_,_=>rfl
  | x :: r,ρ,h,ho=>by
    obtain ⟨ρ1,h1,h2,h3⟩:=hS x ρ (ho x List.mem_cons_self) h
    rw [List.map_cons,compD,h1]
    simp only [Option.bind_some,if_true,h3]
    rw [compD_map ea eb g R ok hS r ρ1 h2 fun y hy=>ho y (List.mem_cons_of_mem _ hy)]
    rfl
structure Fr1 (p:Int × Int):Prop where
  pos:0 < p.2
  co:Int.gcd p.1 p.2 = 1
end L2
namespace L2
open PySem PySem.Spec PyProof.Rows
end L2
namespace L2
open PySem PySem.Spec PyProof.Rows
variable [Reg]
section
variable {P:Program} {w:World} {K:PySem.W.Frag} {h:Heap} {mg:Str → Option Value} {base:Heap} {x:Str} {st:Stmt} {k:Nat} {ps:List Str} {T:Ty}
end
variable {K:PySem.W.Frag} {h:Heap} {mg:Str → Option Value} {exs:List Str} {x T:Str}
inductive ExcAt (K:PySem.W.Frag) (x:Str):Prop
  | mk (C:Addr) (ns:PySem.W.nsIn K mainGlobals x = some (some (.ref C))) (e:XNo K C):ExcAt K x
end L2
namespace L2
open PySem PySem.Spec PyProof.Rows
variable [Reg]
noncomputable def Itc (lo:Int) (n:Nat):It:=⟨fun i _=>i < n,fun i H x H'=>H' = H ∧ x = .int (lo + (i:Nat) * 2),fun i _=>n ≤ i⟩
theorem turn_two {P:Program} {w:World} {K:PySem.W.Frag} {tg:Expr} (it:Addr) (lo:Int) (n:Nat):Turn P w K tg (Itc lo n) [it] it (fun i h=>IsRangeIter h it (lo + (i:Nat) * 2) ((n:Int) - (i:Nat)) 2) where
  mem:=by simp
  obj:=fun i h st b hb=>by
    obtain rfl:b = it:=by simpa using hb
    exact ⟨_,st,fun v z=>by cases (show Data.fields _ = Data.cell v from z)⟩
  keep:=fun i h h' st k=>k it (by simp) _ st
  item:=by
    intro X hP hw hK hc i pins s σ H E I hf st hg
    subst hP hw hK
    refine L2.o_AAAAA (hf it (by simp)) fun f0 f1 f2 f3 f4 f5=>?_
    refine (Walks.range (prog:=X.prog) (w:=X.w) (I.ok.hd hc) it lo 2 n).item i s _ _ hg st fun v h' tk hv st' kk=>?_
    revert hv
    refine fun zqq=>L2.o_E zqq fun t zq1=>?_
    clear zqq
    subst zq1
    have I1:Inv X pins σ H { s with heap:=h',toks:=tk }:=I.turned (fun b o hb e=>kk b o (by simpa using hb) e) f0 f1 f3 f4 f5
    exact ⟨_,rfl,go_of (s:={ s with heap:=h',toks:=tk }) (n:="range_iterator") st' rfl rfl (by decide) ⟨.int (lo + (i:Nat) * 2),H,I1,⟨t,rfl⟩,⟨rfl,rfl⟩,st',fun b hb=>(hf b hb).1⟩⟩
  done:=by
    intro X hP hw hK hc i pins s σ H E I hf st hg
    subst hP hw hK
    refine L2.o_AAAAA (hf it (by simp)) fun f0 f1 f2 f3 f4 f5=>?_
    exact wpAny_pyNext_range_end (I.ok.hd hc) st (by have:n ≤ i:=hg; (clear f3; omega)) fun h' eb=>⟨rfl,I.turned (t':=s.toks) (fun b o hb e=>eb b o hb e) f0 f1 f3 f4 f5⟩
  self:=fun _ _ _ _ _ st h=>wpAny_pyIter_rangeiter st h
theorem size_two (a b:Int):Builtin.Range.rangeSize a b 2 = (((b - a + 1) / 2).toNat:Int):=by
  unfold Builtin.Range.rangeSize
  rw [if_pos (by decide)]
  split <;> omega
theorem small_two {a b:Int} (ha:-(2 ^ 61) ≤ a) (ha':a < 2 ^ 61) (hb:-(2 ^ 61) ≤ b) (hb':b < 2 ^ 61):Builtin.Range.small a b 2 = true:=by
  have h:((((b - a + 1) / 2).toNat:Nat):Int) ≤ 2 ^ 62:=by omega
  have h0:=Int.natCast_nonneg ((b - a + 1) / 2).toNat
  unfold Builtin.Range.small
  rw [size_two]
  generalize ((((b - a + 1) / 2).toNat:Nat):Int) = k at h h0
  simp only [Builtin.Range.rangeFitsLong,Bool.and_eq_true,Bool.or_eq_true,decide_eq_true_eq,beq_iff_eq,show (2:Int) > 0 by decide,if_true]
  omega
section
variable {X:Cx} {tg:Expr}
noncomputable def iRng3 (ta:TA):TI:=fun σ H R=>ta σ H fun vs H1=>∃ i j:Int,vs = [.int i,.int j,.int 2] ∧ (-(2 ^ 61) ≤ i ∧ i < 2 ^ 61 ∧ -(2 ^ 61) ≤ j ∧ j < 2 ^ 61) ∧ R (Itc i ((j - i + 1) / 2).toNat) H1
theorem range_two {pins:List (Addr × Obj)} {σ:St} {H:Hp} {s:Shared} {R:It → Hp → Prop} {E:Value → Shared → Prop} {lo hi:Int} {t u v:Tok} {tk:Nat} (I:Inv X pins σ H s) (h1:-(2 ^ 61) ≤ lo) (h2:lo < 2 ^ 61) (h3:-(2 ^ 61) ≤ hi) (h4:hi < 2 ^ 61)
    (q:R (Itc lo ((hi - lo + 1) / 2).toNat) H):wpAny (model X.prog X.w) X.A (pyIter (.ref s.heap.objs.size)) (PIE X pins σ tg R) E { s with heap:=s.heap.push { cls:=.type "range",data:=.fields #[.int lo t,.int hi u,.int 2 v] },toks:=tk }:=by
  refine wpAny_pyIter_range (IsRange.new ..) (small_two h1 h2 h3 h4) ?_
  have I1:Inv X pins σ H { s with heap:=s.heap.push { cls:=.type "range",data:=.fields #[.int lo t,.int hi u,.int 2 v] },toks:=tk }:=I.kept fun b o e=>Heap.get?_push_of_some _ e
  refine L2.i_EEEEEAAAAA (_) ([(s.heap.push { cls:=.type "range",data:=.fields #[.int lo t,.int hi u,.int 2 v] }).objs.size]) (_) (_) (H) (rfl) (I1.kept (t':=tk) fun b o e=>Heap.get?_push_of_some _ e) (turn_two _ lo ((hi - lo + 1) / 2).toNat) ?_ (fun b hb=>?_) (q)
  · show IsRangeIter _ _ (lo + ((0:Nat):Int) * 2) (((((hi - lo + 1) / 2).toNat:Nat):Int) - ((0:Nat):Int)) 2
    rw [show lo + ((0:Nat):Int) * 2 = lo by simp,show (((((hi - lo + 1) / 2).toNat:Nat):Int) - ((0:Nat):Int)) = Builtin.Range.rangeSize lo hi 2 by rw [size_two]; (clear h4 h3 h2 h1; omega)]
    exact Heap.get?_push_size _ rfl
  · obtain rfl:b = (s.heap.push { cls:=.type "range",data:=.fields #[.int lo t,.int hi u,.int 2 v] }).objs.size:=by simpa using hb
    exact I1.fpOk (Nat.le_refl _) (I1.hok.fresh (Nat.le_refl _))
theorem pi_range3 {a b c:Expr} {ta:TA} {p pos:Pos} (hg:Gl X "range") (hm:X.mg "range" = none) (ha:PA X [a,b,c] ta) (hs:autoParam (starEach [a,b,c] X.env = [(false,eval a X.env),(false,eval b X.env),(false,eval c X.env)]) L2.ar._auto_1) (hs2:autoParam (starEach [b,c] X.env = [(false,eval b X.env),(false,eval c X.env)]) L2.ar._auto_1) :
    PI X tg (.Call (.Name "range" p) [a,b,c] [] pos) (iRng3 ta):=by
  intro pins s σ H R I h
  refine Call_ (ld_blt I hg hm boot_range (PyProof.Rows.callWith_type1 (thn (ha pos pins s σ H _ I h) fun us s1 ⟨vs,H1,I1,r1,q1⟩=>?_) (by rw [hs,hs2]) (by rw [hs2]; rfl)))
  obtain ⟨i,j,e,⟨q1,q2,q3,q4⟩,q⟩:=q1
  subst e
  cases r1 with
  | cons r rr=>
    cases rr with
    | cons r' rr=>
      cases rr with
      | cons r'' rr=>
        cases rr
        revert r
        refine fun zqq=>L2.o_E zqq fun t zq1=>?_
        clear zqq
        subst zq1
        revert r'
        refine fun zqq=>L2.o_E zqq fun t' zq1=>?_
        clear zqq
        subst zq1
        revert r''
        refine fun zqq=>L2.o_E zqq fun t'' zq1=>?_
        clear zqq
        subst zq1
        exact call_range_3 (by decide) (range_two I1 q1 q2 q3 q4 q) (.inl (PyProof.noPylong_small (by decide)))
noncomputable def three:List PyData → Option (PyData × PyData × PyData)
  | [d,e,f]=>some (d,e,f)
  | _=>none
theorem three_some {ds:List PyData} {p:PyData × PyData × PyData} (h:three ds = some p):ds = [p.1,p.2.1,p.2.2]:=by
  cases ds with
  | nil=>exact L2.no_ns h
  | cons a r=>
    cases r with
    | nil=>exact L2.no_ns h
    | cons b r=>
      cases r with
      | nil=>exact L2.no_ns h
      | cons c r=>
        cases r with
        | nil=>rw [← Option.some.inj h]
        | cons d r=>exact L2.no_ns h
noncomputable def rngL2 (lo:Int) (n:Nat):List PyData:=(List.range n).map fun i=>.int (lo + (i:Nat) * 2)
noncomputable def rng3D (ds:List PyData):Option (List PyData):=(three ds).bind fun p=>(intO p.1).bind fun i=>(intO p.2.1).bind fun j=>(intO p.2.2).bind fun k=>if (decide (i.natAbs < 2 ^ 60) && (decide (j.natAbs < 2 ^ 60) && decide (k = 2))) = true then some (rngL2 i ((j - i + 1) / 2).toNat) else none
theorem nat_61 {j:Int} (h:j.natAbs < 2 ^ 60):-(2 ^ 61) ≤ j ∧ j < 2 ^ 61:=by omega
theorem rng3D_some {ds es:List PyData} (h:rng3D ds = some es):∃ i j,ds = [.int i,.int j,.int 2] ∧ (-(2 ^ 61) ≤ i ∧ i < 2 ^ 61 ∧ -(2 ^ 61) ≤ j ∧ j < 2 ^ 61) ∧ es = rngL2 i ((j - i + 1) / 2).toNat:=by
  obtain ⟨p,h1,g1⟩:=bind_some h
  obtain ⟨i,h2,g2⟩:=bind_some g1
  obtain ⟨j,h3,g3⟩:=bind_some g2
  obtain ⟨k,h4,g4⟩:=bind_some g3
  obtain rfl:=three_some h1
  rw [intO_some h2,intO_some h3,intO_some h4]
  split at g4
  · rename_i hc
    rw [Bool.and_eq_true,Bool.and_eq_true] at hc
    have hc1:=nat_61 (of_decide_eq_true hc.1)
    have hc2:=nat_61 (of_decide_eq_true hc.2.1)
    rw [of_decide_eq_true hc.2.2]
    exact L2.i_EEAA (i) (j) (rfl) (⟨hc1.1,hc1.2,hc2.1,hc2.2⟩) ((Option.some.inj g4).symm)
  · exact L2.no_ns g4
theorem good_two {K:PySem.W.Frag} {G:Hp} (lo:Int) (n:Nat):GoodIt K (Itc lo n) G (rngL2 lo n) where
  go:=fun H2 i s h=>by
    have:i < n:=by simpa [rngL2] using h
    exact this
  yld:=fun H2 i x H3 d s h y=>by
    revert y
    refine fun zqq=>L2.o_A zqq fun zq0 zq1=>?_
    clear zqq
    subst zq0
    subst zq1
    unfold rngL2 at h
    rw [List.getElem?_map] at h
    refine L2.o_EA (Option.map_eq_some_iff.mp h) fun j hj zq2=>?_
    subst zq2
    refine L2.o_E (List.getElem?_eq_some_iff.mp hj) fun h1 h2=>?_
    rw [List.getElem_range] at h2
    subst h2
    exact .inl ⟨rfl,.int _⟩
  stop:=fun H2 s=>by
    show n ≤ (rngL2 lo n).length
    simp [rngL2]
variable {O:Ow} {a b c:Expr} {p pos:Pos} {fs:Rho → Option (List PyData)}
theorem iv_rng3 (hg:Gl X "range") (hm:X.mg "range" = none) (ha:PAr X O [a,b,c] fs) (hs:autoParam (starEach [a,b,c] X.env = [(false,eval a X.env),(false,eval b X.env),(false,eval c X.env)]) L2.ar._auto_1) (hs2:autoParam (starEach [b,c] X.env = [(false,eval b X.env),(false,eval c X.env)]) L2.ar._auto_1) :
    PIv X O tg (.Call (.Name "range" p) [a,b,c] [] pos) (fun ρ=>(fs ρ).bind rng3D):=
  (pi_range3 hg hm ha hs hs2).imp fun σ H R zpat=>by
    obtain ⟨hid,H0,ρ,ow,ds,E,hf,k⟩:=zpat
    obtain ⟨es,h1,h2⟩:=bind_some hf
    refine L2.o_EEAA (rng3D_some h2) fun i j zq2 h3 zq4=>?_
    subst zq2
    subst zq4
    refine ⟨hid,H0,ρ,ow,_,E,h1,fun vs H' s D=>?_⟩
    refine L2.o_EEAA (denl_cons D) fun v ws zq2 D1 D'=>?_
    subst zq2
    refine L2.o_EEAA (denl_cons D') fun v2 ws2 zq2 D2 D''=>?_
    subst zq2
    refine L2.o_EEAA (denl_cons D'') fun v3 ws3 zq2 D3 D4=>?_
    subst zq2
    exact L2.i_EEAA (i) (j) (by rw [den_int D1,den_int D2,den_int D3,denl_nil D4]) (h3) (k _ H' s (good_two i _))
end
end L2
namespace L2
open PySem PySem.Spec PyProof.Rows
theorem rev_no_len:typeLookup (.type "list_reverseiterator") "__len__" = pure none:=by rw [typeLookup_type,builtinLookup_eq_fast]; kernel_rfl
theorem rev_hint:typeLookup (.type "list_reverseiterator") "__length_hint__" = pure (some (.builtin "list_reverseiterator.__length_hint__")):=by rw [typeLookup_type,builtinLookup_eq_fast]; kernel_rfl
theorem rev_self:isSubtype (.type "list_reverseiterator") (.type "list_reverseiterator") = pure true:=by rw [isSubtype_type]; kernel_rfl
section
variable {P:Program} {w:World} {A:Around} {E:Value → Shared → Prop} {s:Shared}
theorem hint_R {J:Addr} {Q:Bool → Shared → Prop} (ty:s.TypeIs (.ref J) "list_reverseiterator") (h:Q false s):wpAny (model P w) A (Builtin.List.listLengthHint (.ref J)) Q E s:=by
  unfold Builtin.List.listLengthHint
  refine wpAny_bind (wpAny_specialOf ty rev_no_len ?_)
  refine wpAny_bind (wpAny_specialOf ty rev_hint ?_)
  generalize e0:("list_reverseiterator.__length_hint__":String) = nm
  wp_delta
  rw [show splitId nm = some ("list_reverseiterator","__length_hint__") from by subst e0; decide +kernel]
  subst e0
  refine wpAny_bind (wpAny_isInstance (T:="list_reverseiterator") (b:=true) ty rev_self (wpAny_ite_split (fun z=>absurd z (by decide)) fun _=>wpAny_ite_split (fun _=>?_) fun z=>absurd (by decide +kernel) z))
  exact wpAny_ite_split (fun z=>absurd z (by decide +kernel)) fun _=>wpAny_pure h
theorem items_rev {items acc:Array Value} (h:ItemsOf (fun i v=>items[items.size - 1 - i]? = some v) acc items.size):acc = items.toList.reverse.toArray:=by
  refine L2.o_A (h) fun h1 h2=>?_
  apply Array.ext
  · rw [h1]; simp
  · intro i h3 h4
    have h5:items[items.size - 1 - i]? = some acc[i]:=h2 i acc[i] (Array.getElem?_eq_getElem h3)
    have h6:i < items.size:=by (clear h5 h4 h2 h; omega)
    rw [Array.getElem?_eq_getElem (by (clear h6 h5 h4 h2 h; omega))] at h5
    rw [← Option.some.inj h5]
    simp
theorem call_list_rev {Q:Value → Shared → Prop} (hh:A.handled = none) {J l:Addr} {items:Array Value} (hJ:s.heap.IsRevIter J l ((items.size:Int) - 1)) (hl:s.heap.IsList l items) (hne:l ≠ J) (hz:items.size ≤ sizeLine)
    (hQ:∀ h' tk c',(∀ b o,b ≠ J → s.heap.get? b = some o → h'.get? b = some o) → h'.get? s.heap.objs.size = some { cls:=.type "list",dict:=none,data:=.seq items.toList.reverse.toArray c',slots:=#[] } → Q (.ref s.heap.objs.size) { s with heap:=h',toks:=tk }) :
    wpAny (model P w) A (call (.type "list") [.ref J]) Q E s:=by
  have hJl:J < s.heap.objs.size:=Heap.lt_size hJ.choose_spec.1
  have hll:l < s.heap.objs.size:=Heap.lt_size hl.choose_spec.1
  refine callType_codes (Q₁:=fun obj s₁=>obj = .ref s.heap.objs.size ∧ s₁ = { s with heap:=s.heap.push { cls:=.type "list",data:=.seq #[] } }) F.called_list (F.typeCall_list_1 _) F.entry_list_init
    (code_list_new _ ⟨rfl,rfl⟩) fun obj s₁ h₁=>?_
  revert h₁
  refine fun zqq=>L2.o_A zqq fun zq0 zq1=>?_
  clear zqq
  subst zq0
  subst zq1
  have hSJ:s.heap.objs.size ≠ J:=Nat.ne_of_gt hJl
  have hSl:s.heap.objs.size ≠ l:=Nat.ne_of_gt hll
  generalize hS0:s.heap.objs.size = S at hSJ hSl hQ ⊢
  have hS:(s.heap.push { cls:=.type "list",data:=.seq #[] }).get? S = some { cls:=.type "list",data:=.seq #[] }:=by rw [← hS0]; exact Heap.get?_push_size _ rfl
  refine ⟨⟨_,hS,rfl⟩,F.args_list_init_2 _ _,?_⟩
  show wpAny _ A.in1.in1 (do let old ← Builtin.List.listItems (.ref S); Builtin.List.listUpdate (.ref S) (fun _=>#[]); letGo old.toList.reverse; Builtin.List.listExtendWith (.ref S) (.ref J) .none) _ _ _
  refine wpAny_bind ?_
  unfold Builtin.List.listItems
  refine wpAny_bind (wpAny_seqItems hS rfl (wpAny_pure ?_))
  show wpAny _ _ (updateSeq S (fun _=>#[]) >>= fun _=>letGo (#[]:Array Value).toList.reverse >>= fun _=>Builtin.List.listExtendWith (.ref S) (.ref J) .none) _ _ _
  refine wpAny_bind (wpAny_updateSeq hS rfl ?_)
  have hS2:=Heap.get?_update_self (Obj.mapSeq (fun _=>(#[]:Array Value))) hS rfl
  have oth1:∀ b o,b ≠ S → s.heap.get? b = some o → ((s.heap.push { cls:=.type "list",data:=.seq #[] }).update S (Obj.mapSeq (fun _=>(#[]:Array Value)))).get? b = some o:=fun b o hb e=>(Heap.get?_update_other _ _ (Ne.symm hb)).trans (Heap.get?_push_of_some _ e)
  refine wpAny_bind (wpAny_letGo ?_)
  generalize (s.heap.push { cls:=.type "list",data:=.seq #[] }).update S (Obj.mapSeq (fun _=>(#[]:Array Value))) = h1 at hS2 oth1
  have hJ1:h1.IsRevIter J l ((items.size:Int) - 1):=hJ.at fun o e=>oth1 J o (Ne.symm hSJ) e
  have hl1:h1.IsList l items:=hl.at fun o e=>oth1 l o (Ne.symm hSl) e
  have W:=(Walks.listRev (prog:=P) (w:=w) (A:=A.in1.in1) hh J l hne items).toS
  have key:∀ (h:Heap) (c1 tk:Nat),(items.size:Nat) = items.size → h.IsRevIter J l ((items.size:Int) - 1) → h.IsList l items → (∀ b o,b ≠ S → s.heap.get? b = some o → h.get? b = some o) → h.get? S = some { cls:=.type "list",data:=.seq #[] c1 } →
      codeAny (model P w) A.in1 (.builtin "list.extend.loop" ⟨[.ref S,.ref J,.none],[]⟩) (wants (fun r s₂=>r = .none ∧ Q (.ref S) s₂) E) { s with heap:=h,toks:=tk }:=by
    intro h c1 tk _ hj hlh hk hSh
    refine codeAny_extend_loopS W hz S (by simp [hSJ,hSl]) .none items.size 0 _ #[] c1 rfl (Nat.zero_le _) ⟨Nat.zero_le _,by simpa using hj,hlh⟩ hSh (ItemsOf.nil _) fun s' acc' c' hm hS' hacc=>?_
    rw [Moved.eq_with hm]
    refine ⟨rfl,?_⟩
    rw [items_rev hacc] at hS'
    refine hQ s'.heap s'.toks c' (fun b o hb e=>hm.heap b o (fun hmem=>?_) (hk b o (fun z=>?_) e)) hS'
    · rcases List.mem_cons.mp hmem with e' | hmem
      · rw [e',← hS0] at e; exact absurd (Heap.lt_size e) (Nat.lt_irrefl _)
      · exact hb (List.mem_singleton.mp hmem)
    · rw [z,← hS0] at e; exact absurd (Heap.lt_size e) (Nat.lt_irrefl _)
  unfold Builtin.List.listExtendWith
  refine wpAny_bind (wpAny_typeOf (s:={ s with heap:=h1 }) hJ1.typeIs ?_)
  have n1:Builtin.List.listSameRef (.ref S) (.ref J) = false:=by simp [Builtin.List.listSameRef,hSJ]
  simp only [n1,show (Value.type "list_reverseiterator" == Value.type "list") = false by decide,show (Value.type "list_reverseiterator" == Value.type "tuple") = false by decide,Bool.or_false,Bool.false_eq_true,if_false]
  refine wpAny_bind (wpAny_pyIter_revIter hJ1 ?_)
  refine wpAny_bind (wpAny_holding (hint_R (s:={ s with heap:=h1 }) hJ1.typeIs ?_))
  refine wpAny_ite_split (fun _=>?_) (fun _=>wpAny_pure ⟨plainId_quiet F.plain_extend_loop _,key _ _ _ rfl hJ1 hl1 oth1 hS2⟩)
  refine wpAny_bind (wpAny_rule ?_)
  refine wpAny_bind ?_
  show wpAny _ _ (updateSeq S (·.push .none) >>= fun _=>updateSeq S (·.pop)) _ _ _
  refine wpAny_bind (wpAny_updateSeq hS2 rfl ?_)
  have u1:=Heap.get?_update_self (Obj.mapSeq (·.push Value.none)) hS2 rfl
  refine wpAny_updateSeq (hz:=by seq_fits) u1 rfl ?_
  have u2:=Heap.get?_update_self (Obj.mapSeq (·.pop)) u1 rfl
  have oth:∀ b o,b ≠ S → h1.get? b = some o → ((h1.update S (Obj.mapSeq (·.push Value.none))).update S (Obj.mapSeq (·.pop))).get? b = some o:=fun b o hb e=>(Heap.get?_update_other _ _ (Ne.symm hb)).trans ((Heap.get?_update_other _ _ (Ne.symm hb)).trans e)
  exact wpAny_pure ⟨plainId_quiet F.plain_extend_loop _,key _ _ _ rfl (hJ1.at fun o e=>oth J o (Ne.symm hSJ) e) (hl1.at fun o e=>oth l o (Ne.symm hSl) e) (fun b o hb e=>oth b o hb (oth1 b o hb e)) u2⟩
end
theorem bt_listR:bootBuiltins "list" = some (.type "list"):=by decide +kernel
theorem bt_revR:bootBuiltins "reversed" = some (.type "reversed"):=by decide +kernel
section
variable [Reg] {X:Cx} {O:Ow} {a:Expr} {fa:Rho → Option PyData} {p p2 pos pos2:Pos}
theorem fr_listrev (hc:X.calm = true) (hg:Gl X "list") (hm:X.mg "list" = none) (hg2:Gl X "reversed") (hm2:X.mg "reversed" = none) (ha:PR X O a fa)
    (he:autoParam (starEach [.Call (.Name "reversed" p2) [a] [] pos2] X.env = (false,eval (.Call (.Name "reversed" p2) [a] [] pos2) X.env) :: starEach [] X.env) L2.ar._auto_1) (hpl:autoParam ((backTo pos (starEach [] X.env)).any (·.1) = false) L2.ar._auto_1)
    (he2:autoParam (starEach [a] X.env = (false,eval a X.env) :: starEach [] X.env) L2.ar._auto_1) (hpl2:autoParam ((backTo pos2 (starEach [] X.env)).any (·.1) = false) L2.ar._auto_1) (hn:autoParam ((backTo pos (starEach [] X.env)) = []) L2.ar._auto_1) :
    PFr X O (.Call (.Name "list" p) [.Call (.Name "reversed" p2) [a] [] pos2] [] pos) (fun ρ=>(fa ρ).bind revD):=by
  intro pins s σ H Q I h
  obtain ⟨hid,H0,ρ,ow,out,E,hf,k⟩:=h
  obtain ⟨d,g1,g2⟩:=bind_some hf
  unfold revD at g2
  split at g2
  case h_2=>cases g2
  rename_i ds
  obtain rfl:=Option.some.inj g2
  refine wpAny_Call_Name_kw (ld_blt I hg hm bt_listR ?_)
  refine PyProof.Rows.callWith_type1 ?_ he hpl
  rw [he]
  show wpAny _ _ (spliced ((false,eval (.Call (.Name "reversed" p2) [a] [] pos2) X.env) :: backTo pos (starEach [] X.env))) _ _ s
  rw [hn]
  refine Calls.spliced_cons ?_
  refine wpAny_Call_Name_kw (ld_blt I hg2 hm2 bt_revR ?_)
  refine PyProof.Rows.callWith_type1 (thn (pa_cons ha pa_nil he2 pos2 pins s σ H (fun vs H'=>∃ v,vs = [v] ∧ Same H H' ∧ Den X.K (del H' hid) v (.list ds)) I ⟨hid,H0,ρ,ow,_,E,g1,fun v H' s' D=>⟨v,rfl,s',D⟩⟩) fun us s1 zpat=>?_) he2 hpl2
  obtain ⟨vs,H1,I1,r1,v,rfl,s01,D1⟩:=zpat
  refine L2.o_EA (vals1 r1) fun u zq1 rx=>?_
  subst zq1
  obtain ⟨q,xs,rfl,q1,r3⟩:=den_lst D1
  cases rx
  refine L2.o_EAA (I1.list ((del_same _ _).seq q1)) fun its r pl hz=>?_
  have hlen:=r.length
  have hL:=pl.isList
  refine call_reversed_list hL ?_
  have hql:q < s1.heap.objs.size:=Heap.lt_size hL.choose_spec.1
  refine Calls.spliced_nil ?_
  have hrev:Heap.IsRevIter (s1.heap.push (revObj q ((its.toArray.size:Int) - 1))) s1.heap.objs.size q ((its.toArray.size:Int) - 1):=⟨_,Heap.get?_push_size _ rfl,rfl,rfl⟩
  refine call_list_rev (I.ok.hd hc) (s:={ s1 with heap:=s1.heap.push (revObj q ((its.toArray.size:Int) - 1)) }) hrev (hL.at fun o e=>Heap.get?_push_of_some _ e) (Nat.ne_of_lt hql) (by simp only [List.size_toArray]; (clear hql; omega)) fun h' tk c' hk hnew=>?_
  have szp:(s1.heap.push (revObj q ((its.toArray.size:Int) - 1))).objs.size = s1.heap.objs.size + 1:=Heap.size_push _ _
  have hkeep:∀ b o,s1.heap.get? b = some o → h'.get? b = some o:=fun b o e=>hk b o (fun z=>by rw [z] at e; exact absurd (Heap.lt_size e) (Nat.lt_irrefl _)) (Heap.get?_push_of_some _ e)
  have hfr:=I1.hok.fresh (a:=s1.heap.objs.size + 1) (Nat.le_succ _)
  have hnew':h'.get? (s1.heap.objs.size + 1) = some { cls:=.type "list",dict:=none,data:=.seq its.reverse.toArray c',slots:=#[] }:=by
    have:=hnew
    rw [show (Shared.heap { s1 with heap:=s1.heap.push (revObj q ((its.toArray.size:Int) - 1)) }).objs.size = s1.heap.objs.size + 1 from szp] at this
    exact this
  rw [show (Shared.heap { s1 with heap:=s1.heap.push (revObj q ((its.toArray.size:Int) - 1)) }).objs.size = s1.heap.objs.size + 1 from szp]
  refine ⟨.ref (s1.heap.objs.size + 1),_,I1.laid (a:=s1.heap.objs.size + 1) (t':=tk) (o:=.lst xs.reverse) hkeep (Nat.le_succ _) ⟨by rw [List.length_reverse]; exact hz,its.reverse,c',vals_rev r,hnew'⟩,rfl,?_⟩
  exact k _ _ _ (s01.trans (same_new hfr)) (s01.free hfr) upd_same ((r3.rev).mono (del_new (same_new hfr) hfr fun b z=>by rcases z with z | z; exact .inl z; exact .inr (by simpa using z)))
end
end L2
namespace L2
open PySem PySem.Spec PyProof.Rows
section
variable {P:Program} {w:World} {A:Around} {E:Value → Shared → Prop} {s:Shared}
end
variable [Reg]
end L2
namespace L2
open PySem PySem.Spec PyProof.Rows
variable [Reg]
theorem EnvOk.lend {K:PySem.W.Frag} {O:Ow} {hid:Addr → Prop} {H0 H:Hp} {σ:St} {ρ:Rho} {ow:List Addr} (E:EnvOk K O hid H0 σ H ρ ow) {i:Nat} {es0:List PyData} (hi:O.s.lookup i = some (.lst .cl)) (hρ:ρ[i]? = some (some (.list es0))) :
    ∃ l,σ[i]? = some (some (.ref l)) ∧ ∀ (j:Nat) (us:List V) (ds:List PyData) (T:Ty) (F:List PyData → Option (PyData × List PyData)) (r:PyData × List PyData) (Q:VK),us[j]? = some (.ref l) → ds.length = us.length → ds[j]? = some (.list es0) →
      (∀ (m:Nat) (v:V) (d:PyData),m ≠ j → us[m]? = some v → ds[m]? = some d → Den K (del H (uni hid ow)) v d) → F ds = some r →
      (∀ v H',EnvOk K O hid H0 σ H' (ρ.set i (some (.list r.2))) ow → Same (del H (uni hid ow)) (del H' (uni hid ow)) → Den K (del H' (uni hid ow)) v r.1 → Q v H') → SpIO K j T F us H Q:=by
  refine L2.o_EEAAAA (E.at0 hi hρ) fun l vs h1 h2 h3 h4 h5=>?_
  refine ⟨l,h1,fun j us ds T F r Q g1 g2 g3 g4 g5 k=>?_⟩
  have hlo:uni hid ow l:=.inr h4
  have hu:uni (fun b=>uni hid ow b ∧ b ≠ l) [l] = uni hid ow:=by
    funext b
    apply propext
    constructor
    · rintro (z | z)
      · exact z.1
      · rw [List.mem_singleton.mp z]; exact hlo
    · intro z
      by_cases e:b = l
      · exact .inr (List.mem_singleton.mpr e)
      · exact .inl ⟨z,e⟩
  have big:∀ (as:List Addr) (b:Addr),uni hid ow b → uni (fun b=>uni hid ow b ∧ b ≠ l) (l :: as) b:=fun as b z=>by
    by_cases e:b = l
    · exact .inr (by rw [e]; exact List.mem_cons_self)
    · exact .inl ⟨z,e⟩
  refine ⟨fun b=>uni hid ow b ∧ b ≠ l,l,vs,es0,ds,r,fun b z=>E.uniL b z.1,fun z=>z.2 rfl,g1,h2,by rw [hu]; exact h3,g2,g3,fun m v d hm a b=>by rw [hu]; exact g4 m v d hm a b,g5,fun v as H' ws' s' hl' hD n Dv=>?_⟩
  have s2:Same H (upd H' l (.lst vs)):=fun b o e=>by
    by_cases hb:b = l
    · rw [hb,upd_same]; rw [hb] at e; rw [h2] at e; exact e
    · rw [upd_ne hb]; exact s' b o (by rw [del_neq hb]; exact e)
  have e2:upd (upd H' l (.lst vs)) l (.lst ws') = H':=by
    funext b
    by_cases hb:b = l
    · rw [hb,upd_same]; exact hl'.symm
    · rw [upd_ne hb,upd_ne hb]
  have q:=h5 _ s2 ws' r.2 (by rw [del_upd hlo]; exact hD.mono (del_sub (big as)))
  rw [e2] at q
  refine k v H' q (fun b o z=>?_) (Dv.raw (del_sub (big as)) fun p hp o z=>?_)
  · by_cases hb:uni hid ow b
    · rw [del_in hb] at z; cases z
    · rw [del_out hb] at z ⊢
      exact s' b o (by rw [del_neq fun e=>hb (by rw [e]; exact hlo)]; exact z)
  · rw [del_out (E.fresh (n p hp))]
    exact z
section
variable {X:Cx} {O:Ow} {a b e:Expr} {es:List Expr} {pos p:Pos} {k:Nat} {ps:List Str} {x:Str} {T:Ty}
noncomputable def callI0 (i:Nat) (F:List PyData → Option (PyData × List PyData)) (ρ:Rho):Option (PyData × Rho):=((ρ[i]?).join.bind listD).bind fun xs=>(F [.list xs]).map fun z=>(z.1,ρ.set i (some (.list z.2)))
theorem x_callI0 {i:Nat} {F:List PyData → Option (PyData × List PyData)} (G:DefI X.prog X.w X.K X.mg X.base k x ps 0 T F) (hr:Room k X.A) (hg:Gl X x) (hb:PE X b (tVar i)) (hO:autoParam (O.s.lookup i = some (.lst .cl)) L2.ar._auto_1) (hdb:autoParam ((x == ("__debug__":Str)) = false) L2.ad._auto_1) (he2:autoParam (starEach [b] X.env = (false,eval b X.env) :: starEach [] X.env) L2.ar._auto_1) (hpl:autoParam ((backTo pos (starEach [] X.env)).any (·.1) = false) L2.ar._auto_1) :
    PX X O (.Call (.Name x p) [b] [] pos) (callI0 i F):=by
  refine L2.o_EEAAAA (G) fun f fd g1 g2 g3 g4 _=>?_
  exact (pe_call g1 hr hg g2 g3 g4 .nil pass0 (pa_cons hb pa_nil he2) hdb he2 hpl).imp fun σ H Q zpat=>by
    obtain ⟨hid,H0,ρ,ow,r,E,hf,k⟩:=zpat
    obtain ⟨xs,e2,hf⟩:=bind_some hf
    obtain ⟨z,e3,rfl⟩:=map_some hf
    obtain ⟨dl,e4,e5⟩:=bind_some e2
    rw [listD_some e5] at e4
    refine L2.o_EA (E.lend hO (join_some e4)) fun l h1 h2=>?_
    refine ⟨.ref l,h1,?_⟩
    refine h2 0 _ [.list xs] T F z Q rfl rfl rfl (fun m w dd hm hv hd=>?_) e3 k
    match m,hm,hv,hd with
    | m + 1,_,hv,hd=>exact L2.no_ns hd
variable {ga:Rho → Option (Bool × Rho)} {gb:Rho → Option Bool} {rest:List Expr}
end
end L2
namespace L2
open PySem PySem.Spec PyProof.Rows
section
variable {X:Cx}
end
variable [Reg]
section
variable {X:Cx} {O:Ow} {a b e:Expr} {pos:Pos} {f:Rho → Option PyData}
end
end L2
namespace L2
open PySem PySem.Spec PyProof.Rows
variable [Reg]
section
variable {X:Cx} {O:Ow} {e:Expr} {pos:Pos} {f:Rho → Option PyData} {T:Ty}
end
end L2
namespace L2
open PySem PySem.Spec PyProof.Rows
variable [Reg]
end L2
namespace L2
open PySem PySem.Spec PyProof.Rows
structure ZAp (z TI TO i1 i2:Addr) (f1 f2:List Addr):Prop where
  nd:[z,TI,TO,i1,i2].Nodup
  a1:z ∉ f1 ∧ TO ∉ f1 ∧ i2 ∉ f1
  a2:z ∉ f2 ∧ TO ∉ f2 ∧ i1 ∉ f2
theorem ZAp.ne {z TI TO i1 i2:Addr} {f1 f2:List Addr} (ap:ZAp z TI TO i1 i2 f1 f2):(z ≠ TI ∧ z ≠ TO ∧ z ≠ i1 ∧ z ≠ i2) ∧ (TI ≠ TO ∧ TI ≠ i1 ∧ TI ≠ i2) ∧ (TO ≠ i1 ∧ TO ≠ i2) ∧ i1 ≠ i2:=by
  have nd:=ap.nd
  simp only [List.nodup_cons,List.mem_cons,List.not_mem_nil,or_false,not_or,List.nodup_nil,and_true,not_false_eq_true] at nd
  exact nd
section
variable {P:Program} {w:World} {A:Around} {E:Value → Shared → Prop} {s:Shared} {z TI TO i1 i2:Addr} {f1 f2:List Addr} {n1 n2 k1 k2:Nat} {P1 P2:Nat → Value → Prop} {S1 S2:Nat → Heap → Prop} {a b:Value}
theorem stay {it c:Addr} {f:List Addr} {n k:Nat} {Pv:Nat → Value → Prop} {S:Nat → Heap → Prop} (D:Draws P w A it f n Pv S) {h h':Heap} (st:S k h) (x:Heap.ExtBut c h h') (hc:c ∉ f):S k h':=D.frame k h h' st fun b hb o e=>x b o (fun y=>hc (y ▸ hb)) e
end
noncomputable abbrev zh0 (h:Heap) (l1 l2:Addr):Heap:=h.push { cls:=.type "list_iterator",data:=.fields #[.ref l1,.int 0 0] }
noncomputable abbrev zh1 (h:Heap) (l1 l2:Addr):Heap:=(zh0 h l1 l2).push { cls:=.type "tuple_iterator",data:=.fields #[.ref l2,.int 0 0] }
noncomputable abbrev zh2 (h:Heap) (l1 l2:Addr):Heap:=(zh1 h l1 l2).push { cls:=.type "tuple",data:=.seq #[.ref h.objs.size,.ref (zh0 h l1 l2).objs.size] }
noncomputable abbrev zh3 (h:Heap) (l1 l2:Addr):Heap:=(zh2 h l1 l2).push { cls:=.type "tuple",data:=.seq #[.none,.none] }
noncomputable abbrev zh4 (h:Heap) (l1 l2:Addr):Heap:=(zh3 h l1 l2).push { cls:=.type "zip",data:=.fields #[.none,.bool false,.bool false,.ref (zh1 h l1 l2).objs.size,.ref (zh2 h l1 l2).objs.size] }
section
variable {P:Program} {w:World} {A:Around} {E:Value → Shared → Prop} {s:Shared}
end
variable [Reg]
end L2
namespace L2
open PySem PySem.Spec PyProof.Rows
structure CompScC (sc:Scope) (XN:List Str) (scope:Scope) (k:Nat) (N:List Str) (ix:List Nat) (x0:Str):Prop where
  kind:scope.kind = .function
  okind:sc.kind = .function
  onec:(scope.names.filter fun y=>y.2 == .cell) = [(x0,.cell)]
  x0c:scope.names.lookup x0 = some .cell
  loc:∀ y ∈ scope.names,y.2 = .local → scope.names.lookup y.1 = some .local
  fr:∀ y ∈ scope.names,y.2 = .free → sc.names.lookup y.1 = some .cell
  sl:ix.map (fun i=>XN[i]?) = (N.drop k).map some
  frl:∀ x ∈ N.drop k,scope.names.lookup x = some .free
  len:N.length = k + ix.length
section
variable {X:Cx} {pins:List (Addr × Obj)} {σ:St} {H:Hp} {s:Shared} {scope:Scope} {k:Nat} {N:List Str} {ix:List Nat} {sc:Scope} {fp:List Addr} {x0:Str}
end
variable [Reg]
end L2
namespace L2
open PySem PySem.Spec PyProof.Rows
variable [Reg]
section
variable {P:Program} {w:World} {K:PySem.W.Frag} {h:Heap} {mg:Str → Option Value} {base:Heap} {x:Str} {st:Stmt} {k j:Nat} {ps:List Str} {T:Ty}
theorem FnAt.okI {F:List PyData → Option (PyData × List PyData)} (d:FnAt K x st) (X:K.In h) (G:h.Ns mainGlobals mg)
    (hb:∀ (kV doc pm:Value) (an:Option Addr) (cdv ct:Value) (us:List Value),us.length = ps.length → bindArgs (PySem.W.fnOf x x (defArgs st) (defBody st) (defScope st) .none kV doc pm an cdv ct) ⟨us,[]⟩ = pure (ps.zip us))
    (ok:∀ f fd,PySem.W.nsIn K mainGlobals x = some (some (.ref f)) → Fun K x x st f fd → FnOk P w K mg base CX0 k f fd ps (spIO K j T F)):DefI P w K mg base k x ps j T F:=by
  cases d with
  | mk f fd a D=>exact ⟨f,fd,ok f fd a D,PySem.W.mg_of X G a,D.kp,D.binds hb,a⟩
end
end L2
namespace L2
open PySem PySem.Spec PyProof.Rows
variable [Reg]
section
variable {X:Cx} {O:Ow} {b:Expr} {es:List Expr} {pos p:Pos} {k:Nat} {ps:List Str} {x:Str} {T:Ty}
end
end L2
namespace L2
open PySem PySem.Spec PyProof.Rows
variable [Reg]
noncomputable def tAX (K:PySem.W.Frag) (O:Ow) (f:Rho → Option (List PyData × Rho)):TA:=fun σ H Q=>At5 K O f σ H fun hid H0 ρ ow r=>∀ vs H',EnvOk K O hid H0 σ H' r.2 ow → Same (del H (uni hid ow)) (del H' (uni hid ow)) → DenL K (del H' (uni hid ow)) vs r.1 → Q vs H'
noncomputable abbrev PAX (X:Cx) (O:Ow) (es:List Expr) (f:Rho → Option (List PyData × Rho)):Prop:=PA X es (tAX X.K O f)
noncomputable def consX (fa:Rho → Option (PyData × Rho)) (fs:Rho → Option (List PyData × Rho)) (ρ:Rho):Option (List PyData × Rho):=(fa ρ).bind fun r=>(fs r.2).map fun q=>(r.1 :: q.1,q.2)
section
variable {X:Cx} {O:Ow} {a b e:Expr} {es:List Expr} {fa fb:Rho → Option PyData} {pos p pos':Pos}
theorem ax_nil:PAX X O [] (fun ρ=>some ([],ρ)):=pa_nil.imp fun σ H Q zpat=>by
  obtain ⟨hid,H0,ρ,ow,r,E,hf,k⟩:=zpat
  cases hf
  exact k [] H E (Same.refl _) .nil
theorem ax_cons {fa:Rho → Option (PyData × Rho)} {fs:Rho → Option (List PyData × Rho)} (ha:PX X O a fa) (hr:PAX X O es fs) (hs:autoParam (starEach (a :: es) X.env = (false,eval a X.env) :: starEach es X.env) L2.ar._auto_1):PAX X O (a :: es) (consX fa fs):=(pa_cons ha hr hs).imp fun σ H Q zpat=>by
  obtain ⟨hid,H0,ρ,ow,r,E,hf,k⟩:=zpat
  obtain ⟨r1,h1,h2⟩:=bind_some hf
  obtain ⟨q1,h3,rfl⟩:=map_some h2
  exact ⟨hid,H0,ρ,ow,r1,E,h1,fun x H1 E1 s1 D1=>⟨hid,H0,r1.2,ow,q1,E1,h3,fun vs H2 E2 s2 D2=>k _ H2 E2 (s1.trans s2) (.cons (D1.mono s2) D2)⟩⟩
noncomputable def lstX (fs:Rho → Option (List PyData × Rho)) (ρ:Rho):Option (PyData × Rho):=(fs ρ).bind fun r=>if decide (r.1.length ≤ 1000) = true then some (.list r.1,r.2) else none
theorem x_lst {fs:Rho → Option (List PyData × Rho)} (h:PAX X O es fs):PX X O (.List es pos) (lstX fs):=(pe_lst h).imp fun σ H Q zpat=>by
  obtain ⟨hid,H0,ρ,ow,r,E,hf,k⟩:=zpat
  obtain ⟨r1,h1,h2⟩:=bind_some hf
  split at h2
  case isFalse=>cases h2
  rename_i hc
  cases h2
  refine ⟨hid,H0,ρ,ow,r1,E,h1,fun vs H1 E1 s1 D1=>⟨?_,fun q hq=>?_⟩⟩
  · rw [D1.length]
    exact Nat.le_of_lt (small1000 (of_decide_eq_true hc))
  · exact k _ _ (E1.mono (same_new hq)) (s1.trans (del_mono (same_new hq) _)) (.lst (SqL.of (E1.newAt hq)) (D1.mono (del_mono (same_new hq) _)))
noncomputable def forEff (S:PyData → Rho → Option Rho) (F:Rho → Option Out) (x:Option (PyData × Rho)):Option Out:=x.bind fun r=>(rng1D [r.1]).bind fun ds=>forD S F ds r.2
theorem s_forX {tg:Expr} {body:List Stmt} {fx:Rho → Option (PyData × Rho)} {S:PyData → Rho → Option Rho} {F:Rho → Option Out} (hc:X.calm = true) (hg1:Gl X "range") (hm:X.mg "range" = none) (ha:PX X O a fx) (hg:PGv X O tg S) (hb:PSsv X O body F) (hp:PassesOwn (model X.prog X.w) X.A X.env X.xe)
    (he:autoParam (starEach [a] X.env = [(false,eval a X.env)]) L2.ar._auto_1) (hs:∀ x,foldedSetIterable (.Call (.Name "range" p) [a] [] pos') X.env x = pure x:=by intro _; rfl):PSv X O (.For tg (.Call (.Name "range" p) [a] [] pos') body [] pos) (fun ρ=>forEff S F (fx ρ)):=(ps_for hp hc (pi_range1 hg1 hm (pa_cons ha pa_nil he) he) hg hb hs).imp fun D σ H zpat=>by
  obtain ⟨hid,H0,ρ,ow,out,E,hf,k⟩:=zpat
  obtain ⟨r,g0,hf⟩:=bind_some hf
  obtain ⟨ds,g1,g2⟩:=bind_some hf
  obtain ⟨j,e1,h3,h4,rfl⟩:=rng1D_some g1
  refine ⟨hid,H0,ρ,ow,r,E,g0,fun v H1 E1 s1 D1=>⟨j,?_,h3,h4,?_⟩⟩
  · have e2:r.1 = .int j:=(List.cons.inj e1).1
    rw [e2] at D1
    rw [den_int D1]
  have Gd:GoodIt X.K (Itr 0 j.toNat) (del H1 (uni hid ow)) _:=good_rng 0 j.toNat
  generalize rngL 0 j.toNat = ds at Gd g2
  have k1:=k.weak s1
  refine ⟨fun i m τ H2=>m = ds.length - i ∧ i ≤ ds.length ∧ ∃ ρ2 ow2,EnvOk X.K O hid H0 τ H2 ρ2 ow2 ∧ Same (del H1 (uni hid ow)) (del H2 (uni hid ow2)) ∧ forD S F (ds.drop i) ρ2 = some out,⟨ds.length,by simp,Nat.zero_le _,r.2,ow,E1,Same.refl _,by simpa using g2⟩,?_⟩
  rintro i m τ H2 ⟨rfl,hi',ρ2,ow2,E2,s2,hr⟩
  have keep:Same (del H1 (uni hid ow)) H2:=s2.trans (del_same _ _)
  by_cases hlt:i < ds.length
  · have hdr:ds.drop i = ds[i] :: ds.drop (i + 1):=List.drop_eq_getElem_cons hlt
    rw [hdr,forD] at hr
    obtain ⟨ρ3,g3,hr⟩:=bind_some hr
    obtain ⟨o3,g4,hr⟩:=bind_some hr
    refine .inr ⟨Gd.go H2 i keep hlt,fun τ' H'=>∃ ρ2 ow2,EnvOk X.K O hid H0 τ' H' ρ2 ow2 ∧ Same (del H1 (uni hid ow)) (del H' (uni hid ow2)) ∧ forD S F (ds.drop (i + 1)) ρ2 = some out,fun τ' H' z=>⟨ds.length - (i + 1),by omega,rfl,hlt,z⟩,fun x H3 y=>?_⟩
    have step:∃ s23:Same H2 H3,Den X.K (del H3 (uni hid ow2)) x ds[i]:=by
      rcases Gd.yld H2 i x H3 ds[i] keep (by simp [hlt]) y with ⟨rfl,Dx⟩ | ⟨p,vs,es,hp,rfl,rfl,hde,De⟩
      · exact ⟨Same.refl _,Dx.mono s2⟩
      · refine ⟨same_new hp,?_⟩
        rw [hde]
        exact .tup (SqT.of (E2.newAt hp)) ((De.mono s2).mono (del_mono (same_new hp) _))
    obtain ⟨s23,Dx⟩:=step
    refine ⟨hid,H0,ρ2,ow2,ds[i],ρ3,E2.mono s23,Dx,g3,fun τ3 E3=>⟨hid,H0,ρ3,ow2,o3,E3,g4,?_⟩⟩
    have s13:Same (del H1 (uni hid ow)) (del H3 (uni hid ow2)):=s2.trans (del_mono s23 _)
    cases o3 with
    | nx ρ4=>exact fun σ' H' ow' s' E'=>⟨ρ4,ow',E',s13.trans s',hr⟩
    | ct ρ4=>exact fun σ' H' ow' s' E'=>⟨ρ4,ow',E',s13.trans s',hr⟩
    | bk ρ4=>
      cases hr
      exact fun σ' H' ow' s' E'=>k1 σ' H' ow' (s13.trans s') E'
    | rt d=>
      cases hr
      exact k1
  · have e:i = ds.length:=by omega
    subst e
    rw [List.drop_length,forD] at hr
    cases hr
    exact .inl ⟨Gd.stop H2 keep,k1 τ H2 ow2 s2 E2⟩
end
end L2
namespace L2
open PySem PySem.Spec PyProof.Rows
variable [Reg]
structure AsIo (O:Ow) (i:Nat) (O':Addr → Ow):Prop where
  at_:O.s.lookup i = some (.lst .cl)
  io:∀ l,(O' l).s.lookup i = some (.io l)
  ot:∀ l j,j ≠ i → (O' l).s.lookup j = O.s.lookup j
  r:∀ l,(O' l).r = O.r
  ne:∀ l,(O' l).s ≠ []
section
variable {K:PySem.W.Frag} {O:Ow} {O':Addr → Ow} {i:Nat} {hid:Addr → Prop} {H0 H:Hp} {σ:St} {ρ:Rho} {ow:List Addr}
theorem EnvOk.ofIo (a:AsIo O i O') {l:Addr} (e:EnvOk K (O' l) hid H0 σ H ρ ow):EnvOk K O hid H0 σ H ρ ow:=by
  obtain ⟨A,a1,a2,a3⟩:=e.own
  refine ⟨e.len,e.base,fun j d hj hd=>?_,⟨A,fun j t d hj hd=>?_,a2,a3⟩,e.isl,e.ishL,fun z=>?_⟩
  · have ji:j ≠ i:=fun z=>by rw [z,a.at_] at hj; cases hj
    exact e.val j d (by rw [a.ot l j ji]; exact hj) hd
  · by_cases ji:j = i
    · subst ji
      rw [a.at_] at hj
      cases hj
      obtain ⟨v,hv,D⟩:=a1 j _ d (a.io l) hd
      refine ⟨v,hv,?_⟩
      generalize A j = Aj at D
      cases D with
      | io q dl=>exact .lst q dl.os (by simp)
      | non=>exact .non
    · exact a1 j t d (by rw [a.ot l j ji]; exact hj) hd
  · have:=a.at_
    rw [z] at this
    cases this
end
section
variable {X:Cx} {O:Ow} {O':Addr → Ow} {i:Nat} {x:Str} {p pos:Pos} {tg:Expr} {body:List Stmt} {S:PyData → Rho → Option Rho} {F:Rho → Option Out}
theorem Then.io (a:AsIo O i O') {l:Addr} {hid:Addr → Prop} {H0 G:Hp} {D:Ends} {o:Out} (h:Then X.K O hid H0 G D o):Then X.K (O' l) hid H0 G D o:=by
  cases o with
  | nx ρ=>exact fun σ' H' ow' s E=>h σ' H' ow' s (E.ofIo a)
  | bk ρ=>exact fun σ' H' ow' s E=>h σ' H' ow' s (E.ofIo a)
  | ct ρ=>exact fun σ' H' ow' s E=>h σ' H' ow' s (E.ofIo a)
  | rt d=>exact fun v as H' s n Dv=>h v as H' s n (by rw [a.r l] at Dv; exact Dv)
end
end L2
namespace L2
open PySem PySem.Spec PyProof.Rows
variable [Reg]
noncomputable def compX (S:PyData → Rho → Option Rho) (fe:Rho → Option (PyData × Rho)):Nat → Nat → Rho → Option (List PyData × Rho)
  | 0,_,ρ=>some ([],ρ)
  | n + 1,i,ρ=>(S (.int (i:Nat)) ρ).bind fun ρ1=>(fe ρ1).bind fun y=>(compX S fe n (i + 1) y.2).map fun z=>(y.1 :: z.1,z.2)
noncomputable def O1 (m:Nat) (l:Addr):Ow:=⟨[(m,.io l)],.cl⟩
section
variable {K:PySem.W.Frag} {O:Ow} {hid:Addr → Prop} {H0 H H':Hp} {σ:St} {ρ:Rho} {ow:List Addr} {l D:Addr}
inductive CIx (K:PySem.W.Frag) (m:Nat) (l:Addr) (hx:Addr → Prop) (H1:Hp) (D:Addr) (S:PyData → Rho → Option Rho) (fe:Rho → Option (PyData × Rho)) (n:Nat) (out:List PyData × Rho) (i r:Nat) (τ:St) (H2:Hp):Prop
  | mk (hn:i + r = n) (ρ2:Rho) (ys:List V) (done:List PyData) (rest:List PyData × Rho) (E2:EnvOk K (O1 m l) hx (fun _=>none) τ H2 ρ2 [l]) (s2:Same (del H1 fun b=>b = l) H2) (hy:H2 D = some (.lst ys)) (hd:DenL K (del H2 (uni hx [l])) ys done) (hr:compX S fe r i ρ2 = some rest) (ho:out = (done ++ rest.1,rest.2)) (hl:done.length = i):CIx K m l hx H1 D S fe n out i r τ H2
theorem EnvOk.io (E:EnvOk K O hid H0 σ H ρ ow) {i:Nat} {es:List PyData} (hi:O.s.lookup i = some (.io l)) (hρ:ρ[i]? = some (some (.list es))) :
    ∃ vs,σ[i]? = some (some (.ref l)) ∧ H l = some (.lst vs) ∧ DenL K (del H (uni hid ow)) vs es ∧ l ∈ ow:=by
  obtain ⟨A,EA⟩:=E.own
  obtain ⟨v,b1,b2⟩:=EA.1 i (.io l) _ hi hρ
  have b3:=EA.2.2 i
  generalize A i = Ai at b2 b3
  cases b2 with
  | io h q=>exact ⟨_,b1,h,q,b3 l (List.mem_singleton.mpr rfl)⟩
end
section
variable {X:Cx} {O:Ow} {e:Expr} {f:Rho → Option (PyData × Rho)} {pos p:Pos} {tg:Expr} {l:Addr}
end
end L2
namespace L2
open PySem PySem.Spec PyProof.Rows
variable [Reg]
section
variable {X:Cx} {O:Ow} {e c:Expr} {f:Rho → Option PyData} {a rest:List Stmt} {F G:Rho → Option Out} {ft:Rho → Option Bool} {l:Addr} {pos:Pos}
theorem pv_veil (h:PR X O0 e f):PV X O e (veilF (O.s.map (·.1)) f):=h.imp fun σ H Q zpat=>by
  obtain ⟨hid,H0,ρ,ow,d,E,hf,k⟩:=zpat
  exact ⟨uni hid ow,H,_,[],d,E.veil,hf,fun v H' s D=>k v H' s D⟩
theorem ss_ifI (hc:PTv X O c ft) (ha:PSI X O l a F) (hr:PSI X O l rest G):PSI X O l (.If c a [] pos :: rest) (fun ρ=>condO (ft ρ) (F ρ) (G ρ)):=(pss_cons (ps_if hc ha pss_nil) hr).imp fun D σ H zpat=>by
  obtain ⟨hid,H0,ρ,ow,o,E,hf,d,es,rfl,k⟩:=zpat
  obtain ⟨b,g1,g2⟩:=bind_some hf
  refine ⟨hid,H0,ρ,ow,b,E,g1,fun H' s=>?_⟩
  cases b with
  | true=>rw [if_pos rfl] at g2 ⊢; exact ⟨hid,H0,ρ,ow,_,E.mono s,g2,d,es,rfl,k⟩
  | false=>rw [if_neg Bool.false_ne_true] at g2 ⊢; exact ⟨hid,H0,ρ,ow,_,E.mono s,g2,d,es,rfl,k⟩
end
end L2
namespace L2
open PySem PySem.Spec PyProof.Rows
variable [Reg]
section
variable {K:PySem.W.Frag} {H C:Hp}
inductive PutAt (K:PySem.W.Frag) (H C:Hp) (ts:List Ty) (vs:List V) (ds:List PyData) (as:List Addr) (k:Nat) (t:Ty):Prop
  | mk (w:V) (d:PyData) (bs cs:List Addr) (hw:vs[k]? = some w) (hd:ds[k]? = some d) (D:DenO K H C t w d bs) (sp:∀ p,p ∈ as ↔ p ∈ bs ∨ p ∈ cs) (dj:∀ p ∈ bs,p ∉ cs)
      (put:∀ (H' C':Hp) (t':Ty) (w':V) (d':PyData) (bs':List Addr),Same C C' → (∀ p ∈ cs,∀ o,H p = some o → H' p = some o) → DenO K H' C' t' w' d' bs' → (∀ p ∈ bs',p ∉ cs) →
        ∃ as',DenOp K H' C' (ts.set k t') (vs.set k w') (ds.set k d') as' ∧ ∀ p,p ∈ as' ↔ p ∈ bs' ∨ p ∈ cs):PutAt K H C ts vs ds as k t
theorem DenOp.put {ts:List Ty} {vs:List V} {ds:List PyData} {as:List Addr} (h:DenOp K H C ts vs ds as):∀ {k:Nat} {t:Ty},ts[k]? = some t → PutAt K H C ts vs ds as k t:=
  h.ind (P:=fun ts vs ds as=>∀ {k:Nat} {t:Ty},ts[k]? = some t → PutAt K H C ts vs ds as k t) (fun e=>by rw [List.getElem?_nil] at e; cases e) fun {t0 ts v d vs ds as bs} h0 r n ih {k t} e=>by
    cases k with
    | zero=>
      obtain rfl:=Option.some.inj e
      refine ⟨v,d,as,bs,rfl,rfl,h0,fun p=>List.mem_append,n,fun H' C' t' w' d' bs' c kp D dj=>⟨bs' ++ bs,.cons D (r.mono c fun p hp o=>kp p hp o) dj,fun p=>List.mem_append⟩⟩
    | succ k=>
      obtain ⟨w,d0,b1,c1,hw,hd,D,sp,dj,put⟩:=ih (k:=k) (by simpa using e)
      refine ⟨w,d0,b1,as ++ c1,by simpa using hw,by simpa using hd,D,fun p=>?_,fun p hp z=>?_,fun H' C' t' w' d' bs' c kp D' dj'=>?_⟩
      · rw [List.mem_append,List.mem_append,sp]
        constructor
        · rintro (z | z | z)
          · exact .inr (.inl z)
          · exact .inl z
          · exact .inr (.inr z)
        · rintro (z | z | z)
          · exact .inr (.inl z)
          · exact .inl z
          · exact .inr (.inr z)
      · rcases List.mem_append.mp z with z | z
        · exact n p z ((sp p).mpr (.inl hp))
        · exact dj p hp z
      · obtain ⟨as',q1,q2⟩:=put H' C' t' w' d' bs' c (fun p hp=>kp p (List.mem_append_right _ hp)) D' fun p hp z=>dj' p hp (List.mem_append_right _ z)
        refine ⟨as ++ as',.cons (h0.mono c fun p hp o=>kp p (List.mem_append_left _ hp) o) q1 fun p hp z=>?_,fun p=>?_⟩
        · rcases (q2 p).mp z with z | z
          · exact dj' p z (List.mem_append_left _ hp)
          · exact n p hp ((sp p).mpr (.inr z))
        · rw [List.mem_append,List.mem_append,q2]
          constructor
          · rintro (z | z | z)
            · exact .inr (.inl z)
            · exact .inl z
            · exact .inr (.inr z)
          · rintro (z | z | z)
            · exact .inr (.inl z)
            · exact .inl z
            · exact .inr (.inr z)
end
section
variable {K:PySem.W.Frag} {O:Ow} {hid:Addr → Prop} {H0 H H2:Hp} {σ:St} {ρ:Rho} {ow:List Addr} {A:Nat → List Addr}
noncomputable def restO (ow as:List Addr):List Addr:=ow.filter fun b=>!as.contains b
theorem mem_restO {ow as:List Addr} {b:Addr}:b ∈ restO ow as ↔ b ∈ ow ∧ b ∉ as:=by
  unfold restO
  rw [List.mem_filter,Bool.not_eq_true',← Bool.not_eq_true,List.contains_iff_mem]
theorem EnvOk.treeO {O':Ow} (E:EnvOk K O hid H0 σ H ρ ow) (EA:OwnA K O hid σ H ρ ow A) {i:Nat} {t t':Ty} {v:V} {d2:PyData} {as2:List Addr} (hi:O.s.lookup i = some t) (hi2:O'.s.lookup i = some t') (hoth:∀ j,j ≠ i → O'.s.lookup j = O.s.lookup j) (hl:i < ρ.length) (hv:σ[i]? = some (some v))
    (s:∀ b o,b ∉ A i → H b = some o → H2 b = some o) (hn:∀ p ∈ as2,p ∈ A i ∨ H p = none) (hD:DenO K H2 (del H2 (uni hid (as2 ++ restO ow (A i)))) t' v d2 as2) :
    EnvOk K O' hid H0 σ H2 (ρ.set i (some d2)) (as2 ++ restO ow (A i)) ∧ Same (del H (uni hid ow)) (del H2 (uni hid (as2 ++ restO ow (A i)))):=by
  obtain ⟨a1,a2,a3⟩:=EA
  have nw:∀ p ∈ as2,p ∈ ow ∨ H p = none:=fun p hp=>(hn p hp).imp (a3 i p) id
  have back:∀ b,b ∈ as2 ++ restO ow (A i) → b ∈ ow ∨ H b = none:=fun b z=>by
    rcases List.mem_append.mp z with z | z
    · exact nw b z
    · exact .inl (mem_restO.mp z).1
  have sub:Same (del H (uni hid ow)) (del H2 (uni hid (as2 ++ restO ow (A i)))):=fun b o z=>by
    by_cases hb:uni hid ow b
    · rw [del_in hb] at z; cases z
    · rw [del_out hb] at z
      rw [del_out fun y=>?_]
      · exact s b o (fun y=>hb (.inr (a3 i b y))) z
      · rcases y with y | y
        · exact hb (.inl y)
        · rcases back b y with y | y
          · exact hb (.inr y)
          · rw [y] at z; cases z
  refine ⟨⟨by rw [List.length_set]; exact E.len,fun b o z=>?_,fun j x hj q=>?_,⟨fun j=>if j = i then as2 else A j,fun j t2 x hj q=>?_,fun j k p hjk hp hk=>?_,fun j p hp=>?_⟩,fun l hl=>?_,fun b hb=>?_,fun z=>by rw [z] at hi2; cases hi2⟩,sub⟩
  · have y:=E.base b o z
    by_cases hb:b ∈ ow
    · rw [del_in hb] at y; cases y
    · rw [del_out hb] at y
      rw [del_out fun w=>?_]
      · exact s b o (fun w=>hb (a3 i b w)) y
      · rcases back b w with w | w
        · exact hb w
        · rw [w] at y; cases y
  · have hne:j ≠ i:=fun z=>by rw [z,hi2] at hj; cases hj
    rw [List.getElem?_set_ne (Ne.symm hne)] at q
    obtain ⟨w,b1,b2⟩:=E.val j x (by rw [← hoth j hne]; exact hj) q
    exact ⟨w,b1,b2.mono sub⟩
  · rcases set_two q with ⟨rfl,z,hz⟩ | ⟨hne,z⟩
    · obtain rfl:=Option.some.inj z
      rw [hi2] at hj
      obtain rfl:=Option.some.inj hj
      exact ⟨v,hv,by dsimp only; rw [if_pos rfl]; exact hD⟩
    · obtain ⟨w,b1,b2⟩:=a1 j t2 x (by rw [← hoth j hne]; exact hj) z
      refine ⟨w,b1,?_⟩
      dsimp only
      rw [if_neg hne]
      exact b2.mono sub fun p hp o q=>s p o (a2 j i p hne hp) q
  · dsimp only at hp hk
    split at hp
    · split at hk
      · subst_vars; exact hjk rfl
      · rename_i hji hki
        rcases hn p hp with z | z
        · exact a2 i k p (fun y=>hki y.symm) z hk
        · obtain ⟨⟨vs,q⟩,_⟩:=E.isl p (a3 k p hk)
          rw [z] at q; cases q
    · split at hk
      · rename_i hji hki
        rcases hn p hk with z | z
        · exact a2 i j p (fun y=>hji y.symm) z hp
        · obtain ⟨⟨vs,q⟩,_⟩:=E.isl p (a3 j p hp)
          rw [z] at q; cases q
      · exact a2 j k p hjk hp hk
  · dsimp only at hp
    split at hp
    · exact List.mem_append_left _ hp
    · rename_i hji
      exact List.mem_append_right _ (mem_restO.mpr ⟨a3 j p hp,fun z=>a2 j i p hji hp z⟩)
  · rcases List.mem_append.mp hl with z | z
    · refine ⟨hD.lists l z,fun y=>?_⟩
      rcases hn l z with w | w
      · exact (E.isl l (a3 i l w)).2 y
      · exact E.ish l y w
    · obtain ⟨z1,z2⟩:=mem_restO.mp z
      obtain ⟨⟨vs,q⟩,n⟩:=E.isl l z1
      exact ⟨⟨vs,s l _ z2 q⟩,n⟩
  · obtain ⟨vs,q⟩:=E.ishL b hb
    exact ⟨vs,s b _ (fun z=>(E.isl b (a3 i b z)).2 hb) q⟩
theorem EnvOk.tree (E:EnvOk K O hid H0 σ H ρ ow) (EA:OwnA K O hid σ H ρ ow A) {i:Nat} {t:Ty} {v:V} {d2:PyData} {as2:List Addr} (hi:O.s.lookup i = some t) (hl:i < ρ.length) (hv:σ[i]? = some (some v))
    (s:∀ b o,b ∉ A i → H b = some o → H2 b = some o) (hn:∀ p ∈ as2,p ∈ A i ∨ H p = none) (hD:DenO K H2 (del H2 (uni hid (as2 ++ restO ow (A i)))) t v d2 as2) :
    EnvOk K O hid H0 σ H2 (ρ.set i (some d2)) (as2 ++ restO ow (A i)) ∧ Same (del H (uni hid ow)) (del H2 (uni hid (as2 ++ restO ow (A i)))):=E.treeO EA hi hi (fun _ _=>rfl) hl hv s hn hD
end
noncomputable def fdsD:PyData → Option (List PyData)
  | .dict [_,_,(_,.tuple fd)]=>some fd
  | _=>none
section
variable {K:PySem.W.Frag} {O:Ow} {hid:Addr → Prop} {H0 H:Hp} {σ:St} {ρ:Rho} {ow:List Addr}
inductive RecAt (K:PySem.W.Frag) (O:Ow) (hid:Addr → Prop) (H0:Hp) (σ:St) (H:Hp) (ρ:Rho) (ow:List Addr) (i:Nat) (oa:Option Addr) (cls:Str) (ns:List Str) (ts:List Ty) (ds:List PyData):Prop
  | mk (A:Nat → List Addr) (EA:OwnA K O hid σ H ρ ow A) (a D dx:Addr) (fs:List (Str × V)) (as:List Addr) (hv:σ[i]? = some (some (.ref a))) (ho:∀ b,oa = some b → b = a) (hA:A i = a :: as) (hH:H a = some (.ins D dx fs)) (hn:PySem.W.nsIn K mainGlobals cls = some (some (.ref D))) (hf:fs.map (·.1) = ns)
      (q:DenOp K H (del H (uni hid ow)) ts (fs.map (·.2)) ds as) (na:a ∉ as) (hl:i < ρ.length):RecAt K O hid H0 σ H ρ ow i oa cls ns ts ds
theorem EnvOk.recAt (E:EnvOk K O hid H0 σ H ρ ow) {i:Nat} {oa:Option Addr} {cls:Str} {ns:List Str} {ts:List Ty} {ds:List PyData} (hi:O.s.lookup i = some (.rc oa cls ns ts)) (hd:(ρ[i]?).join.bind fdsD = some ds):RecAt K O hid H0 σ H ρ ow i oa cls ns ts ds:=by
  obtain ⟨d,h1,h2⟩:=bind_some hd
  have h1:=join_some h1
  obtain ⟨A,EA⟩:=E.own
  obtain ⟨v,hv,D⟩:=EA.1 i _ d hi h1
  have hl:=(List.getElem?_eq_some_iff.mp h1).1
  generalize hA:A i = Ai at D
  cases D with
  | non=>cases h2
  | @rc _ _ _ _ a D dx fs ds' as ho hH hn hf q na=>
    obtain rfl:ds' = ds:=Option.some.inj h2
    exact ⟨A,EA,a,D,dx,fs,as,hv,ho,hA,hH,hn,hf,q,na,hl⟩
theorem putF_at {f:Str} {y:V}:∀ {fs:List (Str × V)} {k:Nat},(fs.map (·.1))[k]? = some f → (fs.map (·.1)).Nodup → putF f y fs = fs.set k (f,y)
  | [],k,h,_=>by rw [List.map_nil,List.getElem?_nil] at h; cases h
  | (g,x) :: r,0,h,_=>by
    have:g = f:=by simpa using h
    subst this
    show (if g = g then _ else _) = _
    rw [if_pos rfl]
    rfl
  | (g,x) :: r,k + 1,h,n=>by
    have hne:g ≠ f:=fun e=>by
      have:=(List.nodup_cons.mp n).1
      subst e
      exact this (List.mem_of_getElem? (by simpa using h))
    show (if g = f then _ else _) = _
    rw [if_neg hne,putF_at (k:=k) (by simpa using h) (List.nodup_cons.mp n).2]
    rfl
theorem map1_set {fs:List (Str × V)} {k:Nat} {f:Str} {y:V} (h:(fs.map (·.1))[k]? = some f):(fs.set k (f,y)).map (·.1) = fs.map (·.1):=by
  rw [List.map_set]
  apply List.ext_getElem?
  intro j
  by_cases e:j = k
  · subst e
    rw [List.getElem?_set_self (List.getElem?_eq_some_iff.mp h).1,h]
  · rw [List.getElem?_set_ne (Ne.symm e)]
theorem fld_at {f:Str}:∀ {fs:List (Str × V)} {k:Nat} {w:V},(fs.map (·.1))[k]? = some f → (fs.map (·.1)).Nodup → (fs.map (·.2))[k]? = some w → fs.lookup f = some w
  | [],k,w,h,_,_=>by rw [List.map_nil,List.getElem?_nil] at h; cases h
  | (g,x) :: r,0,w,h,_,hw=>by
    have e:g = f:=by simpa using h
    have e2:x = w:=by simpa using hw
    subst e e2
    rw [List.lookup_cons,beq_self_eq_true]
  | (g,x) :: r,k + 1,w,h,n,hw=>by
    have hne:f ≠ g:=fun e=>by
      have:=(List.nodup_cons.mp n).1
      subst e
      exact this (List.mem_of_getElem? (by simpa using h))
    rw [List.lookup_cons,beq_eq_false_iff_ne.mpr hne]
    exact fld_at (k:=k) (by simpa using h) (List.nodup_cons.mp n).2 (by simpa using hw)
theorem set_same {fs:List (Str × V)} {k:Nat} {f:Str} {w:V} (h1:(fs.map (·.1))[k]? = some f) (h2:(fs.map (·.2))[k]? = some w):fs.set k (f,w) = fs:=by
  apply List.ext_getElem?
  intro j
  by_cases ej:j = k
  · subst ej
    rw [List.getElem?_map] at h1 h2
    cases hj:fs[j]? with
    | none=>rw [hj] at h1; cases h1
    | some pr=>
      rw [hj] at h1 h2
      rw [List.getElem?_set_self (List.getElem?_eq_some_iff.mp hj).1]
      obtain ⟨p1,p2⟩:=pr
      have e1:p1 = f:=by simpa using h1
      have e2:p2 = w:=by simpa using h2
      rw [e1,e2]
  · rw [List.getElem?_set_ne (Ne.symm ej)]
theorem EnvOk.putFldO {O':Ow} (E:EnvOk K O hid H0 σ H ρ ow) {i k:Nat} {oa:Option Addr} {cls f:Str} {ns:List Str} {ts:List Ty} {ds:List PyData} {t t':Ty} (hi:O.s.lookup i = some (.rc oa cls ns ts)) (hi2:O'.s.lookup i = some (.rc oa cls ns (ts.set k t'))) (hoth:∀ j,j ≠ i → O'.s.lookup j = O.s.lookup j) (hd:(ρ[i]?).join.bind fdsD = some ds) (hk:ts[k]? = some t) (hf:ns[k]? = some f) (hnd:ns.Nodup) :
    ∃ a D dx fs w d bs,σ[i]? = some (some (.ref a)) ∧ H a = some (.ins D dx fs) ∧ PySem.W.nsIn K mainGlobals cls = some (some (.ref D)) ∧ fs.lookup f = some w ∧ fs.length = ns.length ∧ a ∈ ow ∧ ds[k]? = some d ∧ DenO K H (del H (uni hid ow)) t w d bs ∧ (∀ p ∈ bs,p ∈ ow ∧ p ≠ a) ∧
      ∀ (H1:Hp) (bs':List Addr) (w':V) (d':PyData),(∀ b o,b ∉ bs → b ≠ a → H b = some o → H1 b = some o) → (∀ p ∈ bs',p ∈ bs ∨ H p = none) → H1 a = some (.ins D dx (fs.set k (f,w'))) →
        (∀ ow',(∀ b,b ∈ ow' → b ∈ ow ∨ b ∈ bs') → (∀ b,b ∈ ow → b ∉ bs → b ∈ ow') → (∀ b ∈ bs',b ∈ ow') → (∀ b ∈ bs,b ∉ bs' → b ∉ ow') → DenO K H1 (del H1 (uni hid ow')) t' w' d' bs') →
        ∃ ow',EnvOk K O' hid H0 σ H1 (ρ.set i (some (objD cls ns (ds.set k d')))) ow' ∧ Same (del H (uni hid ow)) (del H1 (uni hid ow')):=by
  obtain ⟨A,EA,a,D,dx,fs,as,hv,ho,hA,hH,hn,hfs,q,na,hl⟩:=E.recAt hi hd
  obtain ⟨w,d,bs,cs,hw,hd',Dw,sp,dj,put⟩:=q.put hk
  subst hfs
  have aow:a ∈ ow:=EA.2.2 i a (by rw [hA]; exact List.mem_cons_self)
  have asow:∀ p ∈ as,p ∈ ow:=fun p hp=>EA.2.2 i p (by rw [hA]; exact List.mem_cons_of_mem _ hp)
  refine ⟨a,D,dx,fs,w,d,bs,hv,hH,hn,fld_at hf hnd hw,by rw [List.length_map],aow,hd',Dw,fun p hp=>⟨asow p ((sp p).mpr (.inl hp)),fun z=>na (z ▸ (sp p).mpr (.inl hp))⟩,fun H1 bs' w' d' s hb ha hD=>?_⟩
  have nbs':∀ p ∈ bs',p ∉ cs:=fun p hp z=>by
    rcases hb p hp with y | y
    · exact dj p y z
    · obtain ⟨vs,e⟩:=q.lists p ((sp p).mpr (.inr z))
      rw [y] at e; cases e
  have nba:a ∉ bs':=fun z=>by
    rcases hb a z with y | y
    · exact na ((sp a).mpr (.inl y))
    · rw [y] at hH; cases hH
  have hsame:∀ p ∈ cs,∀ o,H p = some o → H1 p = some o:=fun p hp o e=>s p o (fun z=>dj p z hp) (fun z=>na (z ▸ (sp p).mpr (.inr hp))) e
  have u1:Same (del H (uni hid ow)) (del H1 (uni hid (bs' ++ (a :: cs) ++ restO ow (A i)))):=fun b o z=>by
    by_cases hb':uni hid ow b
    · rw [del_in hb'] at z; cases z
    · rw [del_out hb'] at z
      rw [del_out fun y=>?_]
      · exact s b o (fun y=>hb' (.inr (asow b ((sp b).mpr (.inl y))))) (fun y=>hb' (.inr (y ▸ aow))) z
      · rcases y with y | y
        · exact hb' (.inl y)
        · rcases List.mem_append.mp y with y | y
          · rcases List.mem_append.mp y with y | y
            · rcases hb b y with x | x
              · exact hb' (.inr (asow b ((sp b).mpr (.inl x))))
              · rw [x] at z; cases z
            · rcases List.mem_cons.mp y with x | x
              · exact hb' (.inr (x ▸ aow))
              · exact hb' (.inr (asow b ((sp b).mpr (.inr x))))
          · exact hb' (.inr (mem_restO.mp y).1)
  have u2:∀ b,b ∈ bs' ++ (a :: cs) ++ restO ow (A i) → b ∈ ow ∨ b ∈ bs':=fun b z=>by
    rcases List.mem_append.mp z with z | z
    · rcases List.mem_append.mp z with z | z
      · exact .inr z
      · rcases List.mem_cons.mp z with x | x
        · exact .inl (x ▸ aow)
        · exact .inl (asow b ((sp b).mpr (.inr x)))
    · exact .inl (mem_restO.mp z).1
  have u3:∀ b,b ∈ ow → b ∉ bs → b ∈ bs' ++ (a :: cs) ++ restO ow (A i):=fun b z1 z2=>by
    by_cases hb':b ∈ A i
    · rw [hA] at hb'
      rcases List.mem_cons.mp hb' with x | x
      · exact List.mem_append_left _ (List.mem_append_right _ (x ▸ List.mem_cons_self))
      · rcases (sp b).mp x with x | x
        · exact absurd x z2
        · exact List.mem_append_left _ (List.mem_append_right _ (List.mem_cons_of_mem _ x))
    · exact List.mem_append_right _ (mem_restO.mpr ⟨z1,hb'⟩)
  have u4:∀ b ∈ bs',b ∈ bs' ++ (a :: cs) ++ restO ow (A i):=fun b z=>by
    exact List.mem_append_left _ (List.mem_append_left _ z)
  have u5:∀ b ∈ bs,b ∉ bs' → b ∉ bs' ++ (a :: cs) ++ restO ow (A i):=fun b z1 z2 z=>by
    rcases List.mem_append.mp z with z | z
    · rcases List.mem_append.mp z with z | z
      · exact z2 z
      · rcases List.mem_cons.mp z with x | x
        · exact na (x ▸ (sp b).mpr (.inl z1))
        · exact dj b z1 x
    · exact (mem_restO.mp z).2 (by rw [hA]; exact List.mem_cons_of_mem _ ((sp b).mpr (.inl z1)))
  obtain ⟨as',hq0,hm0⟩:=put H1 (del H1 (uni hid (bs' ++ (a :: cs) ++ restO ow (A i)))) t' w' d' bs' u1 hsame (hD _ u2 u3 u4 u5) nbs'
  have nas':a ∉ as':=fun z=>by
    rcases (hm0 a).mp z with y | y
    · exact nba y
    · exact na ((sp a).mpr (.inr y))
  have eu:uni hid (bs' ++ (a :: cs) ++ restO ow (A i)) = uni hid ((a :: as') ++ restO ow (A i)):=by
    funext b
    apply propext
    unfold uni
    simp only [List.mem_append,List.mem_cons,hm0]
    constructor
    · rintro (z | (z | z | z) | z)
      · exact .inl z
      · exact .inr (.inl (.inr (.inl z)))
      · exact .inr (.inl (.inl z))
      · exact .inr (.inl (.inr (.inr z)))
      · exact .inr (.inr z)
    · rintro (z | (z | z | z) | z)
      · exact .inl z
      · exact .inr (.inl (.inr (.inl z)))
      · exact .inr (.inl (.inl z))
      · exact .inr (.inl (.inr (.inr z)))
      · exact .inr (.inr z)
  rw [eu] at hq0
  have ew:(fs.map (·.2)).set k w' = (fs.set k (f,w')).map (·.2):=by rw [List.map_set]
  rw [ew] at hq0
  refine ⟨_,E.treeO EA (as2:=a :: as') hi hi2 hoth hl hv (fun b o z e=>s b o (fun y=>z ?_) (fun y=>z ?_) e) (fun p hp=>?_) (.rc ho ha hn (map1_set hf) hq0 nas')⟩
  · rw [hA]; exact List.mem_cons_of_mem _ ((sp b).mpr (.inl y))
  · rw [hA,y]; exact List.mem_cons_self
  · rw [hA]
    rcases List.mem_cons.mp hp with y | y
    · exact .inl (y ▸ List.mem_cons_self)
    · rcases (hm0 p).mp y with y | y
      · rcases hb p y with x | x
        · exact .inl (List.mem_cons_of_mem _ ((sp p).mpr (.inl x)))
        · exact .inr x
      · exact .inl (List.mem_cons_of_mem _ ((sp p).mpr (.inr y)))
theorem set_ty {ts:List Ty} {k:Nat} {t:Ty} (hk:ts[k]? = some t):ts.set k t = ts:=by
  apply List.ext_getElem?
  intro j
  by_cases e:j = k
  · subst e; rw [List.getElem?_set_self (List.getElem?_eq_some_iff.mp hk).1,hk]
  · rw [List.getElem?_set_ne (Ne.symm e)]
theorem EnvOk.putFld (E:EnvOk K O hid H0 σ H ρ ow) {i k:Nat} {oa:Option Addr} {cls f:Str} {ns:List Str} {ts:List Ty} {ds:List PyData} {t:Ty} (hi:O.s.lookup i = some (.rc oa cls ns ts)) (hd:(ρ[i]?).join.bind fdsD = some ds) (hk:ts[k]? = some t) (hf:ns[k]? = some f) (hnd:ns.Nodup) :
    ∃ a D dx fs w d bs,σ[i]? = some (some (.ref a)) ∧ H a = some (.ins D dx fs) ∧ PySem.W.nsIn K mainGlobals cls = some (some (.ref D)) ∧ fs.lookup f = some w ∧ fs.length = ns.length ∧ a ∈ ow ∧ ds[k]? = some d ∧ DenO K H (del H (uni hid ow)) t w d bs ∧ (∀ p ∈ bs,p ∈ ow ∧ p ≠ a) ∧
      ∀ (H1:Hp) (bs':List Addr) (w':V) (d':PyData),(∀ b o,b ∉ bs → b ≠ a → H b = some o → H1 b = some o) → (∀ p ∈ bs',p ∈ bs ∨ H p = none) → H1 a = some (.ins D dx (fs.set k (f,w'))) →
        (∀ ow',(∀ b,b ∈ ow' → b ∈ ow ∨ b ∈ bs') → (∀ b,b ∈ ow → b ∉ bs → b ∈ ow') → (∀ b ∈ bs',b ∈ ow') → (∀ b ∈ bs,b ∉ bs' → b ∉ ow') → DenO K H1 (del H1 (uni hid ow')) t w' d' bs') →
        ∃ ow',EnvOk K O hid H0 σ H1 (ρ.set i (some (objD cls ns (ds.set k d')))) ow' ∧ Same (del H (uni hid ow)) (del H1 (uni hid ow')):=E.putFldO hi (by rw [set_ty hk]; exact hi) (fun _ _=>rfl) hd hk hf hnd
end
section
variable {X:Cx} {O:Ow} {e:Expr} {fe:Rho → Option PyData} {i k:Nat} {x f cls:Str} {ns:List Str} {ts:List Ty} {oa:Option Addr} {p ap apos cpos pos pos':Pos}
theorem DenO.cl0 {K:PySem.W.Frag} {H C:Hp} {v:V} {d:PyData} {as:List Addr} (h:DenO K H C .cl v d as):as = []:=by
  cases h <;> rfl
noncomputable def setFd (i k:Nat) (cls:Str) (ns:List Str) (fe:Rho → Option PyData) (ρ:Rho):Option Out:=(fe ρ).bind fun d'=>((ρ[i]?).join.bind fdsD).map fun ds=>.nx (ρ.set i (some (objD cls ns (ds.set k d'))))
theorem s_setF (hC:FldOk X.K cls f) (hx:PE X (.Name x p) (tVar i)) (he:PV X O e fe) (hO:autoParam (O.s.lookup i = some (.rc oa cls ns ts)) L2.ar._auto_1) (hk:autoParam (ts[k]? = some .cl) L2.ar._auto_1) (hf:autoParam (ns[k]? = some f) L2.ar._auto_1) (hnd:ns.Nodup:=by decide +kernel) (hlen:autoParam (ns.length < 1000) L2.ad._auto_1)
    (hs:autoParam (swapsWith e (some (.Attribute (.Name x p) f pos')) pos.line X.env = pure false) L2.ar._auto_1):PSv X O (.Assign [.Attribute (.Name x p) f pos'] e pos) (setFd i k cls ns fe):=(ps_fld hx he hs).imp fun D σ H zpat=>by
  obtain ⟨hid,H0,ρ,ow,o,E,hf',q⟩:=zpat
  obtain ⟨d',g1,hf'⟩:=bind_some hf'
  obtain ⟨ds,g2,rfl⟩:=map_some hf'
  refine ⟨hid,H0,ρ,ow,d',E,g1,fun y H1 s1 Dy=>?_⟩
  obtain ⟨a,D',dx,fs,w,d,bs,h1,h2,h3,h4,h5,h6,h7,h8,h9,put⟩:=(E.mono s1).putFld hO g2 hk hf hnd
  obtain rfl:=h8.cl0
  obtain ⟨c1,c2⟩:=hC D' h3
  refine ⟨.ref a,h1,a,D',dx,fs,rfl,h2,c1,c2,by omega,?_⟩
  have hfs:(fs.map (·.1))[k]? = some f ∧ (fs.map (·.1)).Nodup:=by
    obtain ⟨A,EA,a',D2,dx2,fs2,as,hv,ho,hA,hH,hn,hfs,_⟩:=(E.mono s1).recAt hO g2
    rw [h1] at hv
    cases hv
    rw [h2] at hH
    cases hH
    rw [hfs]
    exact ⟨hf,hnd⟩
  rw [putF_at hfs.1 hfs.2]
  obtain ⟨ow',e1,e2⟩:=put (upd H1 a (.ins D' dx (fs.set k (f,y)))) [] y d' (fun b o _ hb z=>by rw [upd_ne hb]; exact z) (fun _ z=>absurd z List.not_mem_nil) upd_same fun ow' z1 _ _ _=>.cl (Dy.mono fun b o z=>by
    by_cases hb:uni hid ow b
    · rw [del_in hb] at z; cases z
    · rw [del_out hb] at z
      have hba:b ≠ a:=fun y=>hb (.inr (y ▸ h6))
      rw [del_out fun y=>?_,upd_ne hba]
      · exact z
      · rcases y with y | y
        · exact hb (.inl y)
        · rcases z1 b y with y | y
          · exact hb (.inr y)
          · cases y)
  exact q σ _ ow' ((del_mono s1 _).trans e2) e1
noncomputable def appFd (i k:Nat) (cls:Str) (ns:List Str) (fe:Rho → Option PyData) (ρ:Rho):Option Out:=(fe ρ).bind fun d'=>((ρ[i]?).join.bind fdsD).bind fun ds=>(ds[k]?.bind listD).bind fun es=>if decide (es.length < 1000) = true then some (.nx (ρ.set i (some (objD cls ns (ds.set k (.list (es ++ [d']))))))) else none
theorem s_appF (hC:FldOk X.K cls f) (hx:PE X (.Name x p) (tVar i)) (he:PV X O e fe) (hO:autoParam (O.s.lookup i = some (.rc oa cls ns ts)) L2.ar._auto_1) (hk:autoParam (ts[k]? = some (.lst .cl)) L2.ar._auto_1) (hf:autoParam (ns[k]? = some f) L2.ar._auto_1) (hnd:ns.Nodup:=by decide +kernel)
    (hb1:autoParam (attributeBase (.Name x p) f X.env (eval (.Name x p) X.env) = eval (.Name x p) X.env) L2.ar._auto_1)
    (hbase:autoParam (attributeBase (.Attribute (.Name x p) f ap) "append" X.env (eval (.Attribute (.Name x p) f ap) X.env) = eval (.Attribute (.Name x p) f ap) X.env) L2.ar._auto_1)
    (hfew:autoParam (((backTo cpos (starEach [e] X.env)).all (fun x=>!x.1) && (backToKw cpos (keywordEach [] X.env)).all (fun x=>x.1.isSome) && decide ([e].length + ([]:List Keyword).length + (if ([]:List Keyword).isEmpty then 0 else 1) < 30)) = true) L2.ar._auto_1)
    (hline:autoParam ((apos.endLine == cpos.line) = true) L2.ar._auto_1) (hst:autoParam (starEach [e] X.env = (false,eval e X.env) :: starEach [] X.env) L2.ar._auto_1) (hplain:autoParam ((backTo cpos (starEach [] X.env)).any (·.1) = false) L2.ar._auto_1)
    (hs:autoParam (swapsWith (.Call (.Attribute (.Attribute (.Name x p) f ap) "append" apos) [e] [] cpos) none pos.line X.env = pure false) L2.ar._auto_1) :
    PSv X O (.Expr (.Call (.Attribute (.Attribute (.Name x p) f ap) "append" apos) [e] [] cpos) pos) (appFd i k cls ns fe):=
  (ps_expr (pe_bm PySem.F.plainAttrs_list PySem.F.slot_list_append PySem.F.type_list_append mt_append (pe_fld hx hb1) (pa_cons he pa_nil hst) hbase hfew hline hst hplain) hs).imp fun D σ H zpat=>by
    obtain ⟨hid,H0,ρ,ow,o,E,hf',q⟩:=zpat
    obtain ⟨d',g1,hf'⟩:=bind_some hf'
    obtain ⟨ds,g2,hf'⟩:=bind_some hf'
    obtain ⟨es,g3,hf'⟩:=bind_some hf'
    obtain ⟨dl,g4,g5⟩:=bind_some g3
    rw [listD_some g5] at g4
    split at hf'
    case isFalse=>cases hf'
    rename_i hc
    have hc:=of_decide_eq_true hc
    obtain rfl:=Option.some.inj hf'
    obtain ⟨a,D',dx,fs,w,d,bs,h1,h2,h3,h4,h5,h6,h7,h8,h9,put⟩:=E.putFld hO g2 hk hf hnd
    rw [g4] at h7
    obtain rfl:=Option.some.inj h7
    obtain ⟨c1,c2⟩:=hC D' h3
    cases h8 with
    | @lst _ l vs _ as hl r n=>
      obtain ⟨dl',rfl⟩:=r.dl
      refine ⟨.ref a,h1,a,D',dx,fs,.ref l,rfl,h2,c1,c2,h4,.inl ⟨rfl,vs,SqL.of hl⟩,hid,H0,ρ,ow,d',E,g1,fun y H1 s1 Dy=>?_⟩
      have hz:1000 < sizeLine:=by decide
      refine ⟨l,vs,y,rfl,rfl,s1 _ _ hl,by rw [dl'.length]; omega,?_⟩
      have hla:l ≠ a:=(h9 l List.mem_cons_self).2
      have hlo:l ∈ ow:=(h9 l List.mem_cons_self).1
      have cln:∀ ow':List Addr,(∀ b,b ∈ ow' → b ∈ ow ∨ b ∈ [l]) → Same (del H1 (uni hid ow)) (del (upd H1 l (.lst (vs ++ [y]))) (uni hid ow')):=fun ow' z1 b o z=>by
        by_cases hb:uni hid ow b
        · rw [del_in hb] at z; cases z
        · rw [del_out hb] at z
          have hbl:b ≠ l:=fun y=>hb (.inr (y ▸ hlo))
          rw [del_out fun y=>?_,upd_ne hbl]
          · exact z
          · rcases y with y | y
            · exact hb (.inl y)
            · rcases z1 b y with y | y
              · exact hb (.inr y)
              · exact hbl (List.mem_singleton.mp y)
      have hfs:(fs.map (·.1))[k]? = some f ∧ (fs.map (·.2))[k]? = some (.ref l):=by
        obtain ⟨A,EA,a',D2,dx2,fs2,as,hv,ho,hA,hH,hn,hfs,qq,_⟩:=E.recAt hO g2
        rw [h1] at hv
        cases hv
        rw [h2] at hH
        cases hH
        refine ⟨by rw [hfs]; exact hf,?_⟩
        obtain ⟨w2,d2,_,_,hw2,_,_,_⟩:=qq.put hk
        have:=fld_at (by rw [hfs]; exact hf) (by rw [hfs]; exact hnd) hw2
        rw [h4] at this
        rw [hw2,← Option.some.inj this]
      have hA1:upd H1 l (.lst (vs ++ [y])) a = some (.ins D' dx (fs.set k (f,.ref l))):=by
        rw [upd_ne (Ne.symm hla),set_same hfs.1 hfs.2]
        exact s1 _ _ h2
      obtain ⟨ow',e1,e2⟩:=put (upd H1 l (.lst (vs ++ [y]))) [l] (.ref l) (.list (es ++ [d'])) (fun b o hb _ z=>by rw [upd_ne fun y=>hb (List.mem_singleton.mpr y)]; exact s1 b o z) (fun _ z=>.inl z) hA1 fun ow' z1 _ _ _=>.lst upd_same (((dl'.mono (del_mono s1 _)).append (.cons Dy .nil)).mono (cln ow' z1)).os (by simp)
      exact q σ _ ow' e2 e1
end
end L2
namespace L2
open PySem PySem.Spec PyProof.Rows
variable [Reg]
theorem DenO.rcTo {K:PySem.W.Frag} {H C:Hp} {oa ob:Option Addr} {cls:Str} {ns:List Str} {ts:List Ty} {a:Addr} {d:PyData} {as:List Addr} (h:DenO K H C (.rc oa cls ns ts) (.ref a) d as) (ho:∀ b,ob = some b → b = a):DenO K H C (.rc ob cls ns ts) (.ref a) d as:=by
  cases h with
  | rc h0 hH hn hf q na=>exact .rc ho hH hn hf q na
inductive SpRc (K:PySem.W.Frag) (cls:Str) (ns0:List Str) (ts0:List Ty) (ns:List Str) (ts:List Ty) (F:List PyData → Option (PyData × PyData)) (vs:List V) (H:Hp) (Q:VK):Prop
  | mk (hid:Addr → Prop) (a:Addr) (as:List Addr) (us:List V) (d0:PyData) (ds:List PyData) (r:PyData × PyData) (e:vs = .ref a :: us) (h1:∀ b,hid b → ∃ vs:OwO,H b = some vs.ho) (h2:∀ p ∈ as,¬ hid p) (D0:DenO K H (del H (uni hid as)) (.rc none cls ns0 ts0) (.ref a) d0 as) (Du:DenL K (del H (uni hid as)) us ds) (hF:F (d0 :: ds) = some r)
      (k:∀ v as' H',(∀ b o,b ∉ as → H b = some o → H' b = some o) → (∀ p ∈ as',p ∈ as ∨ H p = none) → DenO K H' (del H' (uni hid as')) (.rc none cls ns ts) (.ref a) r.2 as' → Den K (del H' (uni hid as')) v r.1 → Q v H'):SpRc K cls ns0 ts0 ns ts F vs H Q
noncomputable def spRc (K:PySem.W.Frag) (cls:Str) (ns0:List Str) (ts0:List Ty) (ns:List Str) (ts:List Ty) (F:List PyData → Option (PyData × PyData)):Sp:=fun vs H Q _=>SpRc K cls ns0 ts0 ns ts F vs H Q
inductive ThenR (K:PySem.W.Frag) (a:Addr) (cls:Str) (ns:List Str) (ts:List Ty) (hid:Addr → Prop) (H0:Hp) (D:Ends) (o:Out):Prop
  | mk (d s:PyData) (e:o = .rt (.tuple [d,s])) (k:∀ v as H',Same H0 H' → (∀ p ∈ as,H0 p = none) → DenO K H' (del H' (uni hid as)) (.rc none cls ns ts) (.ref a) s as → Den K (del H' (uni hid as)) v d → D.rt v H' ∧ (v = .non → ∀ σ',D.nx σ' H')):ThenR K a cls ns ts hid H0 D o
noncomputable def tRc (K:PySem.W.Frag) (O:Ow) (a:Addr) (cls:Str) (ns:List Str) (ts:List Ty) (F:Rho → Option Out):TS:=fun D σ H=>At5 K O F σ H fun hid H0 ρ ow o=>ThenR K a cls ns ts hid H0 D o
noncomputable abbrev PSR (X:Cx) (O:Ow) (a:Addr) (cls:Str) (ns:List Str) (ts:List Ty) (sts:List Stmt) (F:Rho → Option Out):Prop:=PSs X sts (tRc X.K O a cls ns ts F)
noncomputable def selfO (d:PyData) (ρ:Rho):Option Out:=((ρ[0]?).join).bind fun s=>(fdsD s).map fun _=>.rt (.tuple [d,s])
section
variable {X:Cx} {O:Ow} {a:Addr} {cls:Str} {ns:List Str} {ts:List Ty} {st:Stmt} {rest:List Stmt} {F G:Rho → Option Out} {e:Expr} {f:Rho → Option PyData} {pos:Pos}
theorem ss_consR (h1:PSv X O st F) (h2:PSR X O a cls ns ts rest G):PSR X O a cls ns ts (st :: rest) (seqI F G):=(pss_cons h1 h2).imp fun D σ H zpat=>by
  obtain ⟨hid,H0,ρ,ow,o,E,hf,d,s,rfl,k⟩:=zpat
  obtain ⟨o1,g1,g2⟩:=bind_some hf
  refine ⟨hid,H0,ρ,ow,o1,E,g1,?_⟩
  cases o1 with
  | nx ρ1=>exact fun σ' H' ow' s' E'=>⟨hid,H0,ρ1,ow',_,E',g2,d,s,rfl,k⟩
  | rt d=>exact L2.no_ns g2
  | bk ρ1=>exact L2.no_ns g2
  | ct ρ1=>exact L2.no_ns g2
theorem EnvOk.selfAt {K:PySem.W.Frag} {hid:Addr → Prop} {H0 H:Hp} {σ:St} {ρ:Rho} {ow:List Addr} (E:EnvOk K O hid H0 σ H ρ ow) {d s:PyData} {o:Out} (hO:O.s.lookup 0 = some (.rc (some a) cls ns ts)) (h:selfO d ρ = some o) :
    ∃ s as,o = .rt (.tuple [d,s]) ∧ (∀ p ∈ as,p ∈ ow) ∧ DenO K H (del H (uni hid ow)) (.rc none cls ns ts) (.ref a) s as:=by
  obtain ⟨s,h1,h⟩:=bind_some h
  obtain ⟨ds,h2,rfl⟩:=map_some h
  obtain ⟨A,EA⟩:=E.own
  obtain ⟨v,hv,D⟩:=EA.1 0 _ s hO (join_some h1)
  have a3:=EA.2.2 0
  generalize A 0 = A0 at D a3
  cases D with
  | non=>cases h2
  | rc ho hH hn hf q na=>
    have:=ho a rfl
    subst this
    exact ⟨_,_,rfl,a3,.rc (fun b z=>by cases z) hH hn hf q na⟩
noncomputable def retR (f:Rho → Option PyData) (ρ:Rho):Option Out:=(f ρ).bind fun d=>selfO d ρ
theorem ss_retR (h:PV X O e f) (hO:autoParam (O.s.lookup 0 = some (.rc (some a) cls ns ts)) L2.ar._auto_1):PSR X O a cls ns ts [.Return (some e) pos] (retR f):=(pss_one (ps_ret h)).imp fun D σ H zpat=>by
  obtain ⟨hid,H0,ρ,ow,o,E,hf,d,s,e1,k⟩:=zpat
  obtain ⟨d',g1,g2⟩:=bind_some hf
  obtain ⟨s',as,e2,ha,D0⟩:=E.selfAt (s:=s) hO g2
  rw [e2] at e1
  injection e1 with e1
  injection e1 with e1
  injection e1 with e1 e3
  injection e3 with e3 _
  subst e1 e3
  refine ⟨hid,H0,ρ,ow,d',E,g1,fun v H' sm Dv=>(k v as H' (E.baseS.trans sm) (fun p hp=>E.ow0 (ha p hp)) (D0.mono (fun b o z=>?_) fun p _ o z=>sm p o z) (Dv.mono (del_sub fun b z=>z.imp id fun y=>ha b y))).1⟩
  exact (del_mono sm _).trans (del_sub fun b z=>z.imp id fun y=>ha b y) b o z
theorem ss_endR (hO:autoParam (O.s.lookup 0 = some (.rc (some a) cls ns ts)) L2.ar._auto_1):PSR X O a cls ns ts [] (selfO .none):=pss_nil.imp fun D σ H zpat=>by
  obtain ⟨hid,H0,ρ,ow,o,E,hf,d,s,e1,k⟩:=zpat
  obtain ⟨s',as,e2,ha,D0⟩:=E.selfAt (s:=s) hO hf
  rw [e2] at e1
  injection e1 with e1
  injection e1 with e1
  injection e1 with e1 e3
  injection e3 with e3 _
  subst e1 e3
  exact (k .non as H E.baseS (fun p hp=>E.ow0 (ha p hp)) (D0.mono (del_sub fun b z=>z.imp id fun y=>ha b y) fun p _ o z=>z) .non).2 rfl σ
end
noncomputable def outRc (o:Option Out):Option (PyData × PyData):=(o.bind outR).bind fun d=>(isTu d).bind two
noncomputable def runRc (n m:Nat) (B:Rho → Option Out) (ds:List PyData):Option (PyData × PyData):=if ds.length = n then outRc (B (ds.map some ++ List.replicate m none)) else none
theorem runRc_some {n m:Nat} {B:Rho → Option Out} {ds:List PyData} {r:PyData × PyData} (h:runRc n m B ds = some r):ds.length = n ∧ B (ds.map some ++ List.replicate m none) = some (.rt (.tuple [r.1,r.2])):=by
  unfold runRc at h
  split at h
  · refine ⟨by assumption,?_⟩
    obtain ⟨d,h0,h⟩:=bind_some h
    obtain ⟨o,h1,h2⟩:=bind_some h0
    obtain ⟨es,h3,h4⟩:=bind_some h
    rw [h1]
    cases o with
    | rt e=>
      obtain rfl:=Option.some.inj h2
      rw [isTu_some h3,two_some h4]
    | _=>exact L2.no_ns h2
  · exact L2.no_ns h
theorem fn_autoR {P:Program} {w:World} {K:PySem.W.Frag} {mg:Str → Option Value} {base:Heap} {x qual:Str} {st:Stmt} {f:Addr} {fd:FuncData} {N ps:List Str} {k:Nat} {cls:Str} {ns0 ns:List Str} {ts0 ts:List Ty} (O:Addr → Ow) (F:Fun K x qual st f fd) (S:FnScope N ps (defScope st))
    (h0:∀ a,(O a).s.lookup 0 = some (.rc (some a) cls ns0 ts0)) (idx:List Nat) (hix:∀ a,(O a).s.map (·.1) = idx) (hO:∀ i ∈ idx,i = 0 ∨ ps.length ≤ i) (B:Rho → Option Out)
    (hbody:∀ (a:Addr) (cdv:Value),CdOk K f cdv → ∀ (A:Around) (outer:List Env) (s:Shared) (H:Hp) (E:XK),Room k (A.deeper (envOfC qual (defScope st) s.heap.objs.size f cdv)) →
      PSR (cxOf CX0 P w K mg base N qual (defScope st) f cdv A outer s H E).nox (O a) a cls ns ts (defBody st) B) :
    FnOk P w K mg base CX0 (k + 1) f fd ps (spRc K cls ns0 ts0 ns ts (runRc ps.length (N.length - ps.length) B)):=by
  refine fn_okC F S (fun vs H Q E h=>?_) (fun cdv hk A outer s H vs Q E hr h=>?_)
  · obtain ⟨hid,a,as,us,d0,ds,r,rfl,h1,h2,D0,Du,hF,q⟩:=h
    have:=(runRc_some hF).1
    rw [List.length_cons] at this ⊢
    rw [Du.length]
    exact this
  · obtain ⟨hid,a,as,us,d0,ds,r,rfl,h1,h2,D0,Du,hF,q⟩:=h
    obtain ⟨hl,hB⟩:=runRc_some hF
    refine ⟨_,hbody a cdv hk A outer s H E hr,?_⟩
    have get:∀ (i:Nat) (d:PyData),((d0 :: ds).map some ++ List.replicate (N.length - ps.length) none)[i]? = some (some d) → (i = 0 ∧ d = d0) ∨ (0 < i ∧ i < ps.length ∧ ∃ v,(start N (.ref a :: us))[i]? = some (some v) ∧ Den K (del H (uni hid as)) v d):=fun i d e=>by
      cases i with
      | zero=>exact .inl ⟨rfl,(Option.some.inj (Option.some.inj e)).symm⟩
      | succ i=>
        refine .inr ⟨Nat.zero_lt_succ _,?_⟩
        rw [List.map_cons,List.cons_append,List.getElem?_cons_succ] at e
        by_cases hi:i < ds.length
        · rw [List.getElem?_append_left (by simpa using hi),List.getElem?_map] at e
          obtain ⟨d',e1,e2⟩:=Option.map_eq_some_iff.mp e
          obtain rfl:=Option.some.inj e2
          obtain ⟨v,e3,e4⟩:=Du.get e1
          refine ⟨by rw [← hl,List.length_cons]; omega,v,?_,e4⟩
          unfold start
          rw [List.map_cons,List.cons_append,List.getElem?_cons_succ,List.getElem?_append_left (by rw [List.length_map,Du.length]; exact hi),List.getElem?_map,e3]
          rfl
        · rw [List.getElem?_append_right (by simpa using Nat.le_of_not_lt hi),List.getElem?_replicate] at e
          split at e <;> cases e
    have E0:EnvOk K (O a) hid (del H fun b=>b ∈ as) (start N (.ref a :: us)) H ((d0 :: ds).map some ++ List.replicate (N.length - ps.length) none) as:=by
      refine ⟨by unfold start; have:=Du.length; simp [this,← hl],fun b o e=>e,fun i d hi e=>?_,⟨fun i=>if i = 0 then as else [],fun i t d hi e=>?_,fun i m p him hp hm=>?_,fun i p hp=>?_⟩,fun m hm=>⟨D0.lists m hm,h2 m hm⟩,h1,fun z=>?_⟩
      · rcases get i d e with ⟨z,_⟩ | ⟨_,_,v,e1,e2⟩
        · rw [z,h0 a] at hi; cases hi
        · exact ⟨v,e1,e2⟩
      · rcases hO i (hix a ▸ lookTy_mem hi) with z | z
        · subst z
          rw [h0 a] at hi
          obtain rfl:=Option.some.inj hi
          rcases get 0 d e with ⟨_,rfl⟩ | ⟨z,_⟩
          · refine ⟨.ref a,rfl,?_⟩
            dsimp only
            rw [if_pos rfl]
            exact D0.rcTo fun b z=>(Option.some.inj z).symm
          · cases z
        · rcases get i d e with ⟨y,_⟩ | ⟨_,y,_⟩
          · have:0 < ps.length:=by rw [← hl,List.length_cons]; omega
            omega
          · omega
      · dsimp only at hp hm
        split at hp
        · split at hm
          · subst_vars; exact him rfl
          · cases hm
        · cases hp
      · dsimp only at hp
        split at hp
        · exact hp
        · cases hp
      · have:=h0 a
        rw [z] at this
        exact L2.no_ns this
    refine ⟨hid,_,_,as,_,E0,hB,r.1,r.2,rfl,fun v as' H' s' n D' Dv=>?_⟩
    have qq:Q v H':=q v as' H' (fun b o hb z=>s' b o (by rw [del_out hb]; exact z)) (fun p hp=>?_) D' Dv
    · exact ⟨qq,fun z σ'=>by rw [z] at qq; exact qq⟩
    · have z:=n p hp
      by_cases hb:p ∈ as
      · exact .inl hb
      · rw [del_out hb] at z
        exact .inr z
noncomputable def DefRc (P:Program) (w:World) (K:PySem.W.Frag) (mg:Str → Option Value) (base:Heap) (k:Nat) (cls m:Str) (ps:List Str) (ns:List Str) (ts:List Ty) (F:List PyData → Option (PyData × PyData)):Prop:=
  ∃ C f fd,Cls K C ∧ Meth K C m f ∧ FnOk P w K mg base CX0 k f fd ps (spRc K cls ns ts ns ts F) ∧ PySem.W.nsIn K mainGlobals cls = some (some (.ref C)) ∧ Binds K fd ps []
theorem look_no {m:Str}:∀ {fs:List (Str × V)},(fs.map (·.1)).contains m = false → fs.lookup m = none
  | [],_=>rfl
  | (g,v) :: r,h=>by
    rw [List.map_cons,List.contains_cons,Bool.or_eq_false_iff] at h
    rw [List.lookup_cons,h.1]
    exact look_no h.2
section
variable {X:Cx} {O:Ow} {a:Expr} {es:List Expr} {fs:Rho → Option (List PyData)} {i k:Nat} {x m cls:Str} {ns ps:List Str} {ts:List Ty} {oa:Option Addr} {F:List PyData → Option (PyData × PyData)} {p apos cpos pos:Pos} {pl:Sem Bool}
noncomputable def methR (i:Nat) (F:List PyData → Option (PyData × PyData)) (fs:Rho → Option (List PyData)) (ρ:Rho):Option Out:=((ρ[i]?).join.bind fdsD).bind fun _=>((ρ[i]?).join).bind fun d0=>(fs ρ).bind fun ds=>(F (d0 :: ds)).map fun r=>.nx (ρ.set i (some r.2))
theorem EnvOk.lendR {K:PySem.W.Frag} {hid:Addr → Prop} {H0 H:Hp} {σ:St} {ρ:Rho} {ow:List Addr} (E:EnvOk K O hid H0 σ H ρ ow) {d0:PyData} {ds:List PyData} {us:List V} {r:PyData × PyData} {D:Ends} {b:Addr} (hO:O.s.lookup i = some (.rc oa cls ns ts)) (hρ:(ρ[i]?).join = some d0) (hd:(fdsD d0).isSome = true) (hb:σ[i]? = some (some (.ref b))) (Du:DenL K (del H (uni hid ow)) us ds) (hF:F (d0 :: ds) = some r) {Q:VK}
    (k:∀ v H' ow',Same (del H (uni hid ow)) (del H' (uni hid ow')) → EnvOk K O hid H0 σ H' (ρ.set i (some r.2)) ow' → Q v H'):SpRc K cls ns ts ns ts F (.ref b :: us) H Q:=by
  obtain ⟨A,EA⟩:=E.own
  have hj:=join_some hρ
  obtain ⟨v,hv,D0⟩:=EA.1 i _ d0 hO hj
  rw [hb] at hv
  obtain rfl:=Option.some.inj (Option.some.inj hv)
  have a3:=EA.2.2 i
  have ho:∀ c,oa = some c → c = b:=by
    generalize A i = Ai at D0
    cases D0 with
    | rc ho _ _ _ _ _=>exact ho
  have nh:∀ q,hid q → q ∉ A i:=fun q z y=>(E.isl q (a3 q y)).2 z
  have eu:uni (fun q=>uni hid ow q ∧ q ∉ A i) (A i) = uni hid ow:=by
    funext q
    apply propext
    constructor
    · rintro (z | z)
      · exact z.1
      · exact .inr (a3 q z)
    · intro z
      by_cases y:q ∈ A i
      · exact .inr y
      · exact .inl ⟨z,y⟩
  refine ⟨fun q=>uni hid ow q ∧ q ∉ A i,b,A i,us,d0,ds,r,rfl,fun q z=>E.uniL q z.1,fun q z y=>y.2 z,by rw [eu]; exact D0.rcTo (fun c z=>nomatch z),by rw [eu]; exact Du,hF,fun v as' H' s n D' Dv=>?_⟩
  have eu2:uni (fun q=>uni hid ow q ∧ q ∉ A i) as' = uni hid (as' ++ restO ow (A i)):=by
    funext q
    apply propext
    unfold uni
    simp only [List.mem_append,mem_restO]
    constructor
    · rintro (⟨z | z,y⟩ | z)
      · exact .inl z
      · exact .inr (.inr ⟨z,y⟩)
      · exact .inr (.inl z)
    · rintro (z | z | ⟨z,y⟩)
      · exact .inl ⟨.inl z,nh q z⟩
      · exact .inr z
      · exact .inl ⟨.inr z,y⟩
  rw [eu2] at D'
  obtain ⟨e1,e2⟩:=E.tree EA hO (List.getElem?_eq_some_iff.mp hj).1 hb s n (D'.rcTo ho)
  exact k v H' _ e2 e1
theorem s_methR0 (G:DefRc X.prog X.w X.K X.mg X.base k cls m ps ns ts F) (hr:Room k X.A) (hx:PE X (.Name x p) (tVar i)) (hO:autoParam (O.s.lookup i = some (.rc oa cls ns ts)) L2.ar._auto_1) (hm:ns.contains m = false:=by decide +kernel)
    (ht:autoParam (eval (.Call (.Attribute (.Name x p) m apos) [] [] cpos) X.env = (do
      let ov ← eval (.Name x p) X.env
      standAt apos.atName
      let (f,first) ← holding [ov] (getMethod ov m pl)
      callWith cpos f first (backTo cpos (starEach [] X.env)) (backToKw cpos (keywordEach [] X.env)))) L2.ar._auto_1)
    (hs:autoParam (swapsWith (.Call (.Attribute (.Name x p) m apos) [] [] cpos) none pos.line X.env = pure false) L2.ar._auto_1) :
    PSv X O (.Expr (.Call (.Attribute (.Name x p) m apos) [] [] cpos) pos) (methR i F fun _=>some []):=by
  obtain ⟨C,f,fd,c,hm',g1,g2,g3⟩:=G
  exact (ps_expr (pe_meth0 (pl:=pl) hx c hm' g1 hr g3 .nil pass0 ht) hs).imp fun D σ H zpat=>by
    obtain ⟨hid,H0,ρ,ow,o,E,hf,q⟩:=zpat
    obtain ⟨fd0,e0,hf⟩:=bind_some hf
    obtain ⟨d0,e1,hf⟩:=bind_some hf
    obtain ⟨ds,e2,hf⟩:=bind_some hf
    obtain ⟨r,e3,rfl⟩:=map_some hf
    obtain rfl:=Option.some.inj e2
    obtain ⟨A,EA,b,D',dx,fs',as,hv,ho,hA,hH,hn,hfs,_,_,_⟩:=E.recAt hO e0
    rw [g2] at hn
    obtain rfl:C = D':=by injection hn with z; injection z with z; injection z
    refine ⟨.ref b,hv,b,dx,fs',rfl,hH,look_no (by rw [hfs]; exact hm),?_⟩
    have hd:(fdsD d0).isSome = true:=by
      rw [e1,Option.bind_some] at e0
      rw [e0]
      rfl
    exact E.lendR (D:=D) hO e1 hd hv .nil e3 fun v H' ow' s2 E2=>q σ H' ow' s2 E2
end
noncomputable def DefM (P:Program) (w:World) (K:PySem.W.Frag) (mg:Str → Option Value) (base:Heap) (k:Nat) (cls m:Str) (ps:List Str) (T:Ty) (F:List PyData → Option PyData):Prop:=
  ∃ C f fd,Cls K C ∧ Meth K C m f ∧ FnOk P w K mg base CX0 k f fd ps (spR K T F) ∧ PySem.W.nsIn K mainGlobals cls = some (some (.ref C)) ∧ Binds K fd ps []
noncomputable def isObD (cls m:Str):PyData → Bool
  | .dict [(.bool false,.str c),(.none,.tuple nn),(_,_)]=>decide (c = cls) && nn.all fun n=>match n with | .str g=>decide (g ≠ m) | _=>false
  | _=>false
theorem isObD_some {K:PySem.W.Frag} {H:Hp} {v:V} {d:PyData} {cls m:Str} (h:Den K H v d) (q:isObD cls m d = true):∃ a C dx fs,v = .ref a ∧ H a = some (.ins C dx fs) ∧ PySem.W.nsIn K mainGlobals cls = some (some (.ref C)) ∧ fs.lookup m = none:=by
  cases h with
  | @obj a c fs fd h D=>
    have q':(decide (c = cls) && ((fs.map (·.1)).map PyData.str).all fun n=>match n with | .str g=>decide (g ≠ m) | _=>false) = true:=q
    rw [Bool.and_eq_true,decide_eq_true_iff] at q'
    obtain ⟨rfl,q2⟩:=q'
    obtain ⟨C,dx,h1,h2⟩:=h
    refine ⟨a,C,dx,fs,rfl,h1,h2,?_⟩
    clear h1 D q
    induction fs with
    | nil=>rfl
    | cons pr r ih=>
      obtain ⟨g,x⟩:=pr
      rw [List.map_cons,List.map_cons,List.all_cons,Bool.and_eq_true] at q2
      rw [List.lookup_cons,beq_eq_false_iff_ne.mpr fun z=>(of_decide_eq_true q2.1) z.symm]
      exact ih q2.2
  | _=>cases q
section
variable {X:Cx} {O:Ow} {o a:Expr} {es:List Expr} {fo:Rho → Option PyData} {fs:Rho → Option (List PyData)} {k:Nat} {m cls:Str} {ps:List Str} {T:Ty} {F:List PyData → Option PyData} {apos cpos:Pos} {pl:Sem Bool}
noncomputable def callM (cls m:Str) (F:List PyData → Option PyData) (fo:Rho → Option PyData) (fs:Rho → Option (List PyData)) (ρ:Rho):Option PyData:=(fo ρ).bind fun d=>if isObD cls m d = true then (fs ρ).bind fun ds=>F (d :: ds) else none
theorem r_callM (G:DefM X.prog X.w X.K X.mg X.base k cls m ps T F) (hr:Room k X.A) (ho:PR X O o fo) (ha:PAr X O (a :: es) fs) (hst:autoParam (starEach (a :: es) X.env = (false,eval a X.env) :: starEach es X.env) L2.ar._auto_1) (hpl:autoParam ((backTo cpos (starEach es X.env)).any (·.1) = false) L2.ar._auto_1)
    (ht:autoParam (eval (.Call (.Attribute o m apos) (a :: es) [] cpos) X.env = (do
      let ov ← eval o X.env
      standAt apos.atName
      let (f,first) ← holding [ov] (getMethod ov m pl)
      callWith cpos f first (backTo cpos (starEach (a :: es) X.env)) (backToKw cpos (keywordEach [] X.env)))) L2.ar._auto_1) :
    PR X O (.Call (.Attribute o m apos) (a :: es) [] cpos) (callM cls m F fo fs):=by
  obtain ⟨C,f,fd,c,hm',g1,g2,g3⟩:=G
  exact (pe_meth (pl:=pl) ho c hm' g1 hr g3 .nil pass0 ha hst hpl ht).imp fun σ H Q zpat=>by
    obtain ⟨hid,H0,ρ,ow,r,E,hf,q⟩:=zpat
    obtain ⟨d,e1,hf⟩:=bind_some hf
    split at hf
    case isFalse=>cases hf
    rename_i hob
    obtain ⟨ds,e2,e3⟩:=bind_some hf
    refine ⟨hid,H0,ρ,ow,d,E,e1,fun v H1 s1 D1=>?_⟩
    obtain ⟨b,C',dx,fs',rfl,h1,h2,h3⟩:=isObD_some D1 hob
    rw [g2] at h2
    obtain rfl:C = C':=by injection h2 with z; injection z with z; injection z
    refine ⟨b,dx,fs',rfl,del_same _ _ _ _ h1,h3,hid,H0,ρ,ow,ds,E.mono s1,e2,fun us H2 s2 D2=>?_⟩
    dsimp only
    rw [List.append_nil]
    refine ⟨hid,d :: ds,r,(E.mono (s1.trans s2)).ishL,.cons (D1.mono (del_mono s2 _)) D2,e3,fun v as H3 s3 n3 D3=>q v H3 ((s1.trans s2).trans s3) (D3.raw (del_uni _ _ _) fun p hp o e=>?_)⟩
    rw [del_out fun z=>(E.mono (s1.trans s2)).ish p z (n3 p hp)]
    exact e
theorem r_callM0 (G:DefM X.prog X.w X.K X.mg X.base k cls m ps T F) (hr:Room k X.A) (ho:PR X O o fo)
    (ht:autoParam (eval (.Call (.Attribute o m apos) [] [] cpos) X.env = (do
      let ov ← eval o X.env
      standAt apos.atName
      let (f,first) ← holding [ov] (getMethod ov m pl)
      callWith cpos f first (backTo cpos (starEach [] X.env)) (backToKw cpos (keywordEach [] X.env)))) L2.ar._auto_1) :
    PR X O (.Call (.Attribute o m apos) [] [] cpos) (callM cls m F fo fun _=>some []):=by
  obtain ⟨C,f,fd,c,hm',g1,g2,g3⟩:=G
  exact (pe_meth0 (pl:=pl) ho c hm' g1 hr g3 .nil pass0 ht).imp fun σ H Q zpat=>by
    obtain ⟨hid,H0,ρ,ow,r,E,hf,q⟩:=zpat
    obtain ⟨d,e1,hf⟩:=bind_some hf
    split at hf
    case isFalse=>cases hf
    rename_i hob
    obtain ⟨ds,e2,e3⟩:=bind_some hf
    obtain rfl:=Option.some.inj e2
    refine ⟨hid,H0,ρ,ow,d,E,e1,fun v H1 s1 D1=>?_⟩
    obtain ⟨b,C',dx,fs',rfl,h1,h2,h3⟩:=isObD_some D1 hob
    rw [g2] at h2
    obtain rfl:C = C':=by injection h2 with z; injection z with z; injection z
    refine ⟨b,dx,fs',rfl,del_same _ _ _ _ h1,h3,?_⟩
    refine ⟨hid,[d],r,(E.mono s1).ishL,.cons D1 .nil,e3,fun v as H3 s3 n3 D3=>q v H3 (s1.trans s3) (D3.raw (del_uni _ _ _) fun p hp o e=>?_)⟩
    rw [del_out fun z=>(E.mono s1).ish p z (n3 p hp)]
    exact e
end
end L2
namespace L2
open PySem PySem.Spec PyProof.Rows
variable [Reg]
theorem putF_new {f:Str} {y:V}:∀ {fs:List (Str × V)},f ∉ fs.map (·.1) → putF f y fs = fs ++ [(f,y)]
  | [],_=>rfl
  | (g,x) :: r,h=>by
    rw [List.map_cons] at h
    show (if g = f then _ else _) = _
    rw [if_neg (fun z:g = f=>h (by rw [← z]; exact List.mem_cons_self)),putF_new fun z=>h (List.mem_cons_of_mem _ z)]
    rfl
theorem DenOp.snoc {K:PySem.W.Frag} {H C:Hp} {t:Ty} {v:V} {d:PyData} {bs:List Addr} (h:DenO K H C t v d bs) {ts:List Ty} {vs:List V} {ds:List PyData} {as:List Addr} (q:DenOp K H C ts vs ds as):(∀ p ∈ as,p ∉ bs) → DenOp K H C (ts ++ [t]) (vs ++ [v]) (ds ++ [d]) (as ++ bs):=
  q.ind (P:=fun ts vs ds as=>(∀ p ∈ as,p ∉ bs) → DenOp K H C (ts ++ [t]) (vs ++ [v]) (ds ++ [d]) (as ++ bs)) (fun _=>by
    have:=DenOp.cons h .nil (fun p _ z=>by cases z)
    rw [List.append_nil] at this
    exact this) fun {t0 ts v0 d0 vs ds as cs} h0 r n ih hb=>by
    rw [List.append_assoc]
    refine .cons h0 (ih fun p hp=>hb p (List.mem_append_right _ hp)) fun p hp z=>?_
    rcases List.mem_append.mp z with z | z
    · exact n p hp z
    · exact hb p (List.mem_append_left _ hp) z
section
variable {X:Cx} {O O':Ow} {e:Expr} {fe:Rho → Option PyData} {a:Addr} {x f cls:Str} {ns0 ns:List Str} {ts0 ts:List Ty} {T:Ty} {p pos pos':Pos} {rest:List Stmt} {G:Rho → Option Out}
noncomputable def newF (cls:Str) (ns:List Str) (fe:Rho → Option PyData) (G:Rho → Option Out) (ρ:Rho):Option Out:=(fe ρ).bind fun d'=>((ρ[0]?).join.bind fdsD).bind fun ds=>G (ρ.set 0 (some (objD cls ns (ds ++ [d']))))
theorem ss_newF (hC:FldOk X.K cls f) (hx:PE X (.Name x p) (tVar 0)) (he:PFt X O T e fe) (hr:PSR X O' a cls ns ts rest G) (hO:autoParam (O.s.lookup 0 = some (.rc (some a) cls ns0 ts0)) L2.ar._auto_1) (hO2:autoParam (O'.s.lookup 0 = some (.rc (some a) cls (ns0 ++ [f]) (ts0 ++ [T]))) L2.ar._auto_1) (hoth:∀ j,j ≠ 0 → O'.s.lookup j = O.s.lookup j:=by intro j hj; cases j with | zero=>exact absurd rfl hj | succ j=>rfl)
    (hf:ns0.contains f = false:=by decide +kernel) (hlen:autoParam (ns0.length < 1000) L2.ad._auto_1) (hs:autoParam (swapsWith e (some (.Attribute (.Name x p) f pos')) pos.line X.env = pure false) L2.ar._auto_1) :
    PSR X O a cls ns ts (.Assign [.Attribute (.Name x p) f pos'] e pos :: rest) (newF cls (ns0 ++ [f]) fe G):=(pss_cons (ps_fld hx he hs) hr).imp fun D σ H zpat=>by
  obtain ⟨hid,H0,ρ,ow,o,E,hf',dd,ss,rfl,q⟩:=zpat
  obtain ⟨d',g1,hf'⟩:=bind_some hf'
  obtain ⟨ds,g2,g3⟩:=bind_some hf'
  refine ⟨hid,H0,ρ,ow,d',E,g1,fun y bs H1 s1 n1 Dy=>?_⟩
  obtain ⟨A,EA,b,D',dx,fs,as,hv,ho,hA,hH,hn,hfs,qq,na,hl⟩:=E.recAt hO g2
  obtain ⟨c1,c2⟩:=hC D' hn
  have hlf:fs.length = ns0.length:=by rw [← hfs,List.length_map]
  refine ⟨.ref b,hv,b,D',dx,fs,rfl,s1 _ _ hH,c1,c2,by omega,?_⟩
  have hfn:f ∉ fs.map (·.1):=fun z=>by
    rw [hfs] at z
    rw [List.contains_iff_mem.mpr z] at hf
    cases hf
  rw [putF_new hfn]
  have bow:b ∈ ow:=EA.2.2 0 b (by rw [hA]; exact List.mem_cons_self)
  have asow:∀ p ∈ as,p ∈ ow:=fun p hp=>EA.2.2 0 p (by rw [hA]; exact List.mem_cons_of_mem _ hp)
  have now:∀ p ∈ bs,p ∉ ow:=fun p hp z=>by
    obtain ⟨⟨w,e⟩,_⟩:=E.isl p z
    rw [n1 p hp] at e; cases e
  have eu:uni hid (bs ++ ow) = uni hid ((b :: (as ++ bs)) ++ restO ow (A 0)):=by
    funext q
    apply propext
    unfold uni
    simp only [List.mem_append,List.mem_cons,mem_restO,hA]
    constructor
    · rintro (z | z | z)
      · exact .inl z
      · exact .inr (.inl (.inr (.inr z)))
      · by_cases h1:q = b
        · exact .inr (.inl (.inl h1))
        · by_cases h2:q ∈ as
          · exact .inr (.inl (.inr (.inl h2)))
          · exact .inr (.inr ⟨z,fun y=>y.elim h1 h2⟩)
    · rintro (z | (z | z | z) | z)
      · exact .inl z
      · exact .inr (.inr (z ▸ bow))
      · exact .inr (.inr (asow q z))
      · exact .inr (.inl z)
      · exact .inr (.inr z.1)
  have hub:uni hid (bs ++ ow) b:=.inr (List.mem_append_right _ bow)
  have ed:del (upd H1 b (.ins D' dx (fs ++ [(f,y)]))) (uni hid (bs ++ ow)) = del H1 (uni hid (bs ++ ow)):=del_upd hub
  have cl0:Same (del H (uni hid ow)) (del H1 (uni hid (bs ++ ow))):=fun q o z=>by
    by_cases hq:uni hid ow q
    · rw [del_in hq] at z; cases z
    · rw [del_out hq] at z
      rw [del_out fun w=>?_]
      · exact s1 q o z
      · rcases w with w | w
        · exact hq (.inl w)
        · rcases List.mem_append.mp w with w | w
          · rw [n1 q w] at z; cases z
          · exact hq (.inr w)
  have hD:DenO X.K (upd H1 b (.ins D' dx (fs ++ [(f,y)]))) (del (upd H1 b (.ins D' dx (fs ++ [(f,y)]))) (uni hid ((b :: (as ++ bs)) ++ restO ow (A 0)))) (.rc (some a) cls (ns0 ++ [f]) (ts0 ++ [T])) (.ref b) (objD cls (ns0 ++ [f]) (ds ++ [d'])) (b :: (as ++ bs)):=by
    rw [← eu,ed]
    have m1:DenOp X.K (upd H1 b (.ins D' dx (fs ++ [(f,y)]))) (del H1 (uni hid (bs ++ ow))) ts0 (fs.map (·.2)) ds as:=qq.mono cl0 fun p hp o z=>by
      rw [upd_ne (show p ≠ b from fun w=>na (w ▸ hp))]
      exact s1 p o z
    have m2:DenO X.K (upd H1 b (.ins D' dx (fs ++ [(f,y)]))) (del H1 (uni hid (bs ++ ow))) T y d' bs:=Dy.mono (Same.refl _) fun p hp o z=>by
      rw [upd_ne (show p ≠ b from fun w=>now p hp (w ▸ bow))]
      exact z
    have m3:=DenOp.snoc m2 m1 fun p hp z=>now p z (asow p hp)
    refine .rc ho upd_same hn (by rw [List.map_append,hfs]; rfl) ?_ fun z=>?_
    · rw [List.map_append]
      exact m3
    · rcases List.mem_append.mp z with z | z
      · exact na z
      · exact now b z bow
  obtain ⟨e1,e2⟩:=E.treeO EA hO hO2 hoth hl hv (fun q o hq z=>by
    rw [upd_ne (show q ≠ b from fun w=>hq (by rw [hA,w]; exact List.mem_cons_self))]
    exact s1 q o z) (fun p hp=>by
    rcases List.mem_cons.mp hp with z | z
    · exact .inl (by rw [hA,z]; exact List.mem_cons_self)
    · rcases List.mem_append.mp z with z | z
      · exact .inl (by rw [hA]; exact List.mem_cons_of_mem _ z)
      · exact .inr (n1 p z)) hD
  exact ⟨hid,H0,_,_,_,e1,g3,dd,ss,rfl,q⟩
end
noncomputable def DefW (P:Program) (w:World) (K:PySem.W.Frag) (mg:Str → Option Value) (base:Heap) (k:Nat) (cls:Str) (ps:List Str) (ns:List Str) (ts:List Ty) (F:List PyData → Option (PyData × PyData)):Prop:=
  ∃ C f fd,Mk K C f ∧ FnOk P w K mg base CX0 k f fd ps (spRc K cls [] [] ns ts F) ∧ mg cls = some (.ref C) ∧ PySem.W.nsIn K mainGlobals cls = some (some (.ref C)) ∧ Binds K fd ps []
section
variable {X:Cx} {O:Ow} {a:Expr} {es:List Expr} {pos p:Pos} {fs:Rho → Option (List PyData)} {k:Nat} {ps:List Str} {cls:Str} {ns:List Str} {ts:List Ty} {F:List PyData → Option (PyData × PyData)}
noncomputable def newW (cls:Str) (F:List PyData → Option (PyData × PyData)) (x:Option (List PyData)):Option PyData:=x.bind fun ds=>(F (objD cls [] [] :: ds)).bind fun r=>match r.1 with
  | .none=>some r.2
  | _=>none
theorem ft_makeW (G:DefW X.prog X.w X.K X.mg X.base k cls ps ns ts F) (hr:Room (k + 1) X.A) (hg:Gl X cls) (ha:PAv X O (a :: es) fs) (hdb:autoParam ((cls == ("__debug__":Str)) = false) L2.ad._auto_1) (he:autoParam (starEach (a :: es) X.env = (false,eval a X.env) :: starEach es X.env) L2.ar._auto_1) (hpl:autoParam ((backTo pos (starEach es X.env)).any (·.1) = false) L2.ar._auto_1) :
    PFt X O (.rc none cls ns ts) (.Call (.Name cls p) (a :: es) [] pos) (fun ρ=>newW cls F (fs ρ)):=by
  obtain ⟨C,f,fd,M,g1,g2,g3,g4⟩:=G
  exact (pe_make M g1 hr hg g2 g4 .nil pass0 ha hdb he hpl).imp fun σ H Q zpat=>by
    obtain ⟨hid,H0,ρ,ow,d,E,hf,q⟩:=zpat
    obtain ⟨ds,h1,hf⟩:=bind_some hf
    obtain ⟨r,h2,h3⟩:=bind_some hf
    obtain ⟨r1,r2⟩:=r
    have hr1:r1 = .none ∧ d = r2:=by
      cases r1 with
      | none=>exact ⟨rfl,(Option.some.inj h3).symm⟩
      | _=>cases h3
    obtain ⟨rfl,rfl⟩:=hr1
    refine ⟨hid,H0,ρ,ow,ds,E,h1,fun vs H1 s1 D1 x dx nx ndx hne=>?_⟩
    rw [List.append_nil]
    have E1:=E.mono s1
    have sN:Same H1 (upd (upd H1 dx (.own x)) x (.ins C dx [])):=fun b o z=>by
      rw [upd_ne (ne_of_none z nx),upd_ne (ne_of_none z ndx)]
      exact z
    have c0:Same (del H1 (uni hid ow)) (del (upd (upd H1 dx (.own x)) x (.ins C dx [])) (uni (uni hid ow) [x])):=fun b o z=>by
      by_cases hb:uni hid ow b
      · rw [del_in hb] at z; cases z
      · rw [del_out hb] at z
        rw [del_out fun w=>?_]
        · exact sN b o z
        · rcases w with w | w
          · exact hb w
          · rw [List.mem_singleton.mp w,nx] at z; cases z
    refine ⟨uni hid ow,x,[x],vs,objD cls [] [],ds,(.none,d),rfl,fun b hb=>?_,fun q hq=>?_,.rc (fs:=[]) (fun b z=>nomatch z) upd_same g3 rfl .nil (by simp),D1.mono c0,h2,fun v as' H' s n D' Dv=>⟨?_,?_⟩⟩
    · obtain ⟨w,z⟩:=E1.uniL b hb
      exact ⟨w,sN _ _ z⟩
    · rw [List.mem_singleton.mp hq]
      exact E1.fresh nx
    · cases Dv; rfl
    · have s2:Same H1 H':=fun b o z=>s b o (fun w=>by rw [List.mem_singleton.mp w,nx] at z; cases z) (sN b o z)
      refine q (.ref x) as' H' (s1.trans s2) (fun b hb=>?_) (D'.mono (del_sub fun b z=>?_) fun p _ o z=>z)
      · have hn:H1 b = none:=by
          rcases n b hb with z | z
          · rw [List.mem_singleton.mp z]; exact nx
          · cases e:H1 b with
            | none=>rfl
            | some o=>rw [sN b o e] at z; cases z
        exact s1.free hn
      · rcases z with z | z
        · exact .inl (.inl z)
        · rcases List.mem_append.mp z with z | z
          · exact .inr z
          · exact .inl (.inr z)
end
section
variable {K:PySem.W.Frag} {O O':Ow} {hid:Addr → Prop} {H0 H:Hp} {σ:St} {ρ:Rho} {ow:List Addr}
theorem EnvOk.loose (E:EnvOk K O hid H0 σ H ρ ow) {i k:Nat} {oa:Option Addr} {cls f:Str} {ns:List Str} {ts:List Ty} {ds es:List PyData} (hi:O.s.lookup i = some (.rc oa cls ns ts)) (hi2:O'.s.lookup i = some (.rc oa cls ns (ts.set k .cl))) (hoth:∀ j,j ≠ i → O'.s.lookup j = O.s.lookup j) (hd:(ρ[i]?).join = some (objD cls ns ds)) (hk:ts[k]? = some (.lst .cl)) (hf:ns[k]? = some f) (hnd:ns.Nodup) (hes:ds[k]? = some (.list es)) :
    ∃ ow',EnvOk K O' hid H0 σ H ρ ow' ∧ Same (del H (uni hid ow)) (del H (uni hid ow')):=by
  have hd':(ρ[i]?).join.bind fdsD = some ds:=by rw [hd]; rfl
  obtain ⟨a,D,dx,fs,w,d,bs,h1,h2,h3,h4,h5,h6,h7,h8,h9,put⟩:=E.putFldO hi hi2 hoth hd' hk hf hnd
  rw [hes] at h7
  obtain rfl:=Option.some.inj h7
  cases h8 with
  | @lst _ l vs _ as hl r n=>
    obtain ⟨dl,rfl⟩:=r.dl
    have hfs:(fs.map (·.1))[k]? = some f ∧ (fs.map (·.2))[k]? = some (.ref l):=by
      obtain ⟨A,EA,a',D2,dx2,fs2,as,hv,ho,hA,hH,hn,hfs,qq,_⟩:=E.recAt hi hd'
      rw [h1] at hv
      cases hv
      rw [h2] at hH
      cases hH
      refine ⟨by rw [hfs]; exact hf,?_⟩
      obtain ⟨w2,d2,_,_,hw2,_,_,_⟩:=qq.put hk
      have:=fld_at (by rw [hfs]; exact hf) (by rw [hfs]; exact hnd) hw2
      rw [h4] at this
      rw [hw2,← Option.some.inj this]
    obtain ⟨ow',e1,e2⟩:=put H [] (.ref l) (.list es) (fun b o _ _ z=>z) (fun _ z=>absurd z List.not_mem_nil) (by rw [set_same hfs.1 hfs.2]; exact h2) fun ow' z1 z2 z3 z4=>.cl (.lst (SqL.of (by
      rw [del_out fun y=>?_]
      · exact hl
      · rcases y with y | y
        · exact (E.isl l (h9 l List.mem_cons_self).1).2 y
        · exact z4 l List.mem_cons_self List.not_mem_nil y)) (dl.mono (del_sub fun b z=>by
          rcases z with z | z
          · exact .inl z
          · rcases z1 b z with z | z
            · exact .inr z
            · cases z)))
    have ed:ds.set k (.list es) = ds:=by
      apply List.ext_getElem?
      intro j
      by_cases ej:j = k
      · subst ej; rw [List.getElem?_set_self (List.getElem?_eq_some_iff.mp hes).1,hes]
      · rw [List.getElem?_set_ne (Ne.symm ej)]
    have er:ρ.set i (some (objD cls ns (ds.set k (.list es)))) = ρ:=by
      rw [ed]
      have hj:=join_some hd
      apply List.ext_getElem?
      intro j
      by_cases ej:j = i
      · subst ej; rw [List.getElem?_set_self (List.getElem?_eq_some_iff.mp hj).1,hj]
      · rw [List.getElem?_set_ne (Ne.symm ej)]
    rw [er] at e1
    exact ⟨ow',e1,e2⟩
end
section
variable {X:Cx} {O O':Ow} {e:Expr} {i j k:Nat} {a:Addr} {x y f cls:Str} {ns:List Str} {ts:List Ty} {oa:Option Addr} {p p2 pos pos':Pos} {sts:List Stmt} {F:Rho → Option Out}
theorem EnvOk.objAt {K:PySem.W.Frag} {hid:Addr → Prop} {H0 H:Hp} {σ:St} {ρ:Rho} {ow:List Addr} (E:EnvOk K O hid H0 σ H ρ ow) {ds:List PyData} (hi:O.s.lookup i = some (.rc oa cls ns ts)) (hd:(ρ[i]?).join.bind fdsD = some ds):(ρ[i]?).join = some (objD cls ns ds):=by
  obtain ⟨d,h1,h2⟩:=bind_some hd
  obtain ⟨A,EA⟩:=E.own
  obtain ⟨v,hv,D⟩:=EA.1 i _ d hi (join_some h1)
  generalize A i = Ai at D
  cases D with
  | non=>cases h2
  | rc ho hH hn hf q na=>
    rw [h1]
    obtain rfl:=Option.some.inj h2
    rfl
noncomputable def looseF (k:Nat) (F:Rho → Option Out) (ρ:Rho):Option Out:=((ρ[0]?).join.bind fdsD).bind fun ds=>(ds[k]?.bind listD).bind fun _=>F ρ
theorem ss_looseR (h:PSR X O' a cls ns ts sts F) {ts0:List Ty} (hO:autoParam (O.s.lookup 0 = some (.rc oa cls ns ts0)) L2.ar._auto_1) (hO2:autoParam (O'.s.lookup 0 = some (.rc oa cls ns (ts0.set k .cl))) L2.ar._auto_1) (hoth:∀ j,j ≠ 0 → O'.s.lookup j = O.s.lookup j:=by intro j hj; cases j with | zero=>exact absurd rfl hj | succ j=>rfl)
    (hk:autoParam (ts0[k]? = some (.lst .cl)) L2.ar._auto_1) (hf:autoParam (ns[k]? = some f) L2.ar._auto_1) (hnd:ns.Nodup:=by decide +kernel):PSR X O a cls ns ts sts (looseF k F):=h.imp fun D σ H zpat=>by
  obtain ⟨hid,H0,ρ,ow,o,E,hF,d,s,rfl,q⟩:=zpat
  obtain ⟨ds,g1,hF⟩:=bind_some hF
  obtain ⟨es,g2,hF⟩:=bind_some hF
  obtain ⟨dl,g3,g4⟩:=bind_some g2
  rw [listD_some g4] at g3
  obtain ⟨ow',e1,_⟩:=E.loose hO hO2 hoth (E.objAt hO g1) hk hf hnd g3
  exact ⟨hid,H0,ρ,ow',_,e1,hF,d,s,rfl,q⟩
noncomputable def fldK (i k:Nat) (ρ:Rho):Option PyData:=((ρ[i]?).join.bind fdsD).bind fun ds=>ds[k]?
theorem v_fldO (hC:FldOk X.K cls f) (hx:PE X (.Name x p) (tVar i)) (hO:autoParam (O.s.lookup i = some (.rc oa cls ns ts)) L2.ar._auto_1) (hk:autoParam (ts[k]? = some .cl) L2.ar._auto_1) (hf:autoParam (ns[k]? = some f) L2.ar._auto_1) (hnd:ns.Nodup:=by decide +kernel)
    (hb:autoParam (attributeBase (.Name x p) f X.env (eval (.Name x p) X.env) = eval (.Name x p) X.env) L2.ar._auto_1):PV X O (.Attribute (.Name x p) f pos) (fldK i k):=(pe_fld hx hb).imp fun σ H Q zpat=>by
  obtain ⟨hid,H0,ρ,ow,r,E,hF,q⟩:=zpat
  obtain ⟨ds,g1,g2⟩:=bind_some hF
  obtain ⟨b,D,dx,fs,w,d,bs,h1,h2,h3,h4,h5,h6,h7,h8,h9,_⟩:=E.putFld hO g1 hk hf hnd
  rw [g2] at h7
  obtain rfl:=Option.some.inj h7
  obtain ⟨c1,c2⟩:=hC D h3
  exact ⟨.ref b,h1,b,D,dx,fs,w,rfl,h2,c1,c2,h4,q w H (Same.refl _) h8.den⟩
noncomputable def moveR (k j:Nat) (cls:Str) (ns:List Str) (ρ:Rho):Option Out:=((ρ[0]?).join.bind fdsD).bind fun ds=>((ρ[j]?).join.bind listD).map fun es=>.rt (.tuple [.none,objD cls ns (ds.set k (.list es))])
theorem ss_moveR (hC:FldOk X.K cls f) (hx:PE X (.Name x p) (tVar 0)) (hy:PE X (.Name y p2) (tVar j)) {ts0:List Ty} (hO:autoParam (O.s.lookup 0 = some (.rc (some a) cls ns ts0)) L2.ar._auto_1) (hj:autoParam (O.s.lookup j = some (.lst .cl)) L2.ar._auto_1) (hj0:autoParam (j ≠ 0) L2.ad._auto_1) (hk:autoParam (ts0[k]? = some .cl) L2.ar._auto_1) (hts:autoParam (ts0.set k (.lst .cl) = ts) L2.ar._auto_1) (hf:autoParam (ns[k]? = some f) L2.ar._auto_1) (hnd:ns.Nodup:=by decide +kernel) (hlen:autoParam (ns.length < 1000) L2.ad._auto_1)
    (hs:autoParam (swapsWith (.Name y p2) (some (.Attribute (.Name x p) f pos')) pos.line X.env = pure false) L2.ar._auto_1):PSR X O a cls ns ts [.Assign [.Attribute (.Name x p) f pos'] (.Name y p2) pos] (moveR k j cls ns):=(pss_one (ps_fld hx hy hs)).imp fun D σ H zpat=>by
  obtain ⟨hid,H0,ρ,ow,o,E,hF,d,s,e1,q⟩:=zpat
  obtain ⟨ds,g1,hF⟩:=bind_some hF
  obtain ⟨es,g2,hF⟩:=map_some hF
  rw [← hF] at e1
  injection e1 with e1
  injection e1 with e1
  injection e1 with e1 e3
  injection e3 with e3 _
  subst e1 e3
  obtain ⟨dl,g3,g4⟩:=bind_some g2
  rw [listD_some g4] at g3
  obtain ⟨A,EA,b,D',dx,fs,as,hv,ho,hA,hH,hn,hfs,qq,na,hl⟩:=E.recAt hO g1
  obtain rfl:=ho a rfl
  obtain ⟨w,hw,Dw⟩:=EA.1 j _ _ hj (join_some g3)
  generalize hAj:A j = Aj at Dw
  cases Dw with
  | @lst _ l vs _ bs hl2 r n=>
    obtain ⟨dl2,rfl⟩:=r.dl
    have hlj:l ∈ A j:=by rw [hAj]; exact List.mem_cons_self
    have hlo:l ∈ ow:=EA.2.2 j l hlj
    have aow:a ∈ ow:=EA.2.2 0 a (by rw [hA]; exact List.mem_cons_self)
    have asow:∀ p ∈ as,p ∈ ow:=fun p hp=>EA.2.2 0 p (by rw [hA]; exact List.mem_cons_of_mem _ hp)
    have hla:l ≠ a:=fun z=>EA.2.1 j 0 l hj0 hlj (by rw [hA,z]; exact List.mem_cons_self)
    have hlas:l ∉ as:=fun z=>EA.2.1 j 0 l hj0 hlj (by rw [hA]; exact List.mem_cons_of_mem _ z)
    obtain ⟨c1,c2⟩:=hC D' hn
    have hlf:fs.length = ns.length:=by rw [← hfs,List.length_map]
    refine ⟨.ref l,hw,.ref a,hv,a,D',dx,fs,rfl,hH,c1,c2,by omega,?_⟩
    have hk1:(fs.map (·.1))[k]? = some f:=by rw [hfs]; exact hf
    rw [putF_at hk1 (by rw [hfs]; exact hnd)]
    obtain ⟨w0,d0,b0,cs,hw0,hd0,D0,sp,dj,put⟩:=qq.put hk
    obtain rfl:=D0.cl0
    have ecs:∀ q,q ∈ as ↔ q ∈ cs:=fun q=>by
      rw [sp]
      exact ⟨fun z=>z.elim (fun y=>absurd y List.not_mem_nil) id,.inr⟩
    have cln:∀ as2:List Addr,(∀ q ∈ as2,q ∈ ow) → Same (del H (uni hid ow)) (del (upd H a (.ins D' dx (fs.set k (f,.ref l)))) (uni hid as2)):=fun as2 h2 q o z=>by
      by_cases hq:uni hid ow q
      · rw [del_in hq] at z; cases z
      · rw [del_out hq] at z
        rw [del_out fun w=>hq (w.imp id (h2 q)),upd_ne (show q ≠ a from fun w=>hq (.inr (w ▸ aow)))]
        exact z
    have nas:∀ q ∈ as,q ≠ a:=fun q hq z=>na (z ▸ hq)
    obtain ⟨as',m1,m2⟩:=put (upd H a (.ins D' dx (fs.set k (f,.ref l)))) (del (upd H a (.ins D' dx (fs.set k (f,.ref l)))) (uni hid (a :: l :: as))) (.lst .cl) (.ref l) (.list es) [l] (cln _ fun q hq=>by
      rcases List.mem_cons.mp hq with z | hq
      · exact z ▸ aow
      · rcases List.mem_cons.mp hq with z | hq
        · exact z ▸ hlo
        · exact asow q hq) (fun q hq o z=>by rw [upd_ne (nas q ((ecs q).mpr hq))]; exact z) (.lst (by rw [upd_ne hla]; exact hl2) (dl2.mono (cln _ fun q hq=>by
      rcases List.mem_cons.mp hq with z | hq
      · exact z ▸ aow
      · rcases List.mem_cons.mp hq with z | hq
        · exact z ▸ hlo
        · exact asow q hq)).os (by simp)) fun q hq z=>by
      rw [List.mem_singleton.mp hq] at z
      exact hlas ((ecs l).mpr z)
    have eu:uni hid (a :: l :: as) = uni hid (a :: as'):=by
      funext q
      apply propext
      unfold uni
      simp only [List.mem_cons,m2,List.mem_nil_iff,or_false,← ecs]
    rw [eu,hts] at m1
    have m3:(fs.map (·.2)).set k (.ref l) = (fs.set k (f,.ref l)).map (·.2):=by rw [List.map_set]
    rw [m3] at m1
    refine (q .non (a :: as') _ (fun b o z=>?_) (fun q hq=>?_) (.rc (fun b z=>nomatch z) upd_same hn (by rw [map1_set hk1]; exact hfs) m1 fun z=>?_) .non).2 rfl σ
    · have y:=E.base b o z
      by_cases hb:b ∈ ow
      · rw [del_in hb] at y; cases y
      · rw [del_out hb] at y
        rw [upd_ne (show b ≠ a from fun w=>hb (w ▸ aow))]
        exact y
    · refine E.ow0 ?_
      rcases List.mem_cons.mp hq with z | hq
      · exact z ▸ aow
      · rcases (m2 q).mp hq with z | z
        · exact List.mem_singleton.mp z ▸ hlo
        · exact asow q ((ecs q).mpr z)
    · rcases (m2 a).mp z with z | z
      · exact hla (List.mem_singleton.mp z).symm
      · exact na ((ecs a).mpr z)
end
end L2
namespace L2
open PySem PySem.Spec PyProof.Rows
variable [Reg]
inductive MethAt (K:PySem.W.Frag) (cls m:Str) (st:Stmt):Prop
  | mk (C f:Addr) (fd:FuncData) (a:PySem.W.nsIn K mainGlobals cls = some (some (.ref C))) (c1:PySem.W.plainGet K C Str.empty = true) (c2:PySem.W.hasDictIn K C = true) (c3:PySem.W.plainOver K C = true) (c4:PySem.W.findIn K (.ref C) "__setattr__" = some (some (.builtin "object.__setattr__")))
      (m1:PySem.W.findIn K (.ref C) m = some (some (.ref f))) (m2:PySem.W.isFn K (.ref f) = true) (m3:PySem.W.keepIn K (.ref f) = true) (F:Fun K m (cls ++ "." ++ m) st f fd):MethAt K cls m st
inductive ClsW (K:PySem.W.Frag) (cls:Str) (st:Stmt):Prop
  | mk (C f:Addr) (fd:FuncData) (a:PySem.W.nsIn K mainGlobals cls = some (some (.ref C))) (m1:PySem.W.makesIn K C = true) (m2:PySem.W.findIn K (.ref C) "__init__" = some (some (.ref f))) (m3:PySem.W.isFn K (.ref f) = true) (m4:PySem.W.keepIn K (.ref C) = true) (F:Fun K "__init__" (cls ++ ".__init__") st f fd):ClsW K cls st
inductive FldW (K:PySem.W.Frag) (cls f:Str):Prop
  | mk (C:Addr) (a:PySem.W.nsIn K mainGlobals cls = some (some (.ref C))) (c1:PySem.W.plainGet K C Str.empty = true) (c2:PySem.W.hasDictIn K C = true) (c3:PySem.W.plainOver K C = true) (c4:PySem.W.findIn K (.ref C) "__setattr__" = some (some (.builtin "object.__setattr__"))) (n:PySem.W.findIn K (.ref C) f = some none):FldW K cls f
theorem FldW.ok {K:PySem.W.Frag} {cls f:Str} (h:FldW K cls f):FldOk K cls f:=fun D hD=>by
  cases h with
  | mk C a c1 c2 c3 c4 n=>
    rw [a] at hD
    cases hD
    exact ⟨⟨c1,c2,c3,c4⟩,n⟩
section
variable {P:Program} {w:World} {K:PySem.W.Frag} {h:Heap} {mg:Str → Option Value} {base:Heap} {cls m:Str} {st:Stmt} {k:Nat} {ps ns:List Str} {ts:List Ty} {T:Ty}
theorem MethAt.okM {F:List PyData → Option PyData} (d:MethAt K cls m st)
    (hb:∀ (kV doc pm:Value) (an:Option Addr) (cdv ct:Value) (us:List Value),us.length = ps.length → bindArgs (PySem.W.fnOf m (cls ++ "." ++ m) (defArgs st) (defBody st) (defScope st) .none kV doc pm an cdv ct) ⟨us,[]⟩ = pure (ps.zip us))
    (ok:∀ f fd,Fun K m (cls ++ "." ++ m) st f fd → FnOk P w K mg base CX0 k f fd ps (spR K T F)):DefM P w K mg base k cls m ps T F:=by
  cases d with
  | mk C f fd a c1 c2 c3 c4 m1 m2 m3 D=>exact ⟨C,f,fd,⟨c1,c2,c3,c4⟩,⟨m1,m2,m3⟩,ok f fd D,a,D.binds hb⟩
theorem MethAt.okR {F:List PyData → Option (PyData × PyData)} (d:MethAt K cls m st)
    (hb:∀ (kV doc pm:Value) (an:Option Addr) (cdv ct:Value) (us:List Value),us.length = ps.length → bindArgs (PySem.W.fnOf m (cls ++ "." ++ m) (defArgs st) (defBody st) (defScope st) .none kV doc pm an cdv ct) ⟨us,[]⟩ = pure (ps.zip us))
    (ok:∀ f fd,Fun K m (cls ++ "." ++ m) st f fd → FnOk P w K mg base CX0 k f fd ps (spRc K cls ns ts ns ts F)):DefRc P w K mg base k cls m ps ns ts F:=by
  cases d with
  | mk C f fd a c1 c2 c3 c4 m1 m2 m3 D=>exact ⟨C,f,fd,⟨c1,c2,c3,c4⟩,⟨m1,m2,m3⟩,ok f fd D,a,D.binds hb⟩
theorem ClsW.ok {F:List PyData → Option (PyData × PyData)} (d:ClsW K cls st) (X:K.In h) (G:h.Ns mainGlobals mg)
    (hb:∀ (kV doc pm:Value) (an:Option Addr) (cdv ct:Value) (us:List Value),us.length = ps.length → bindArgs (PySem.W.fnOf "__init__" (cls ++ ".__init__") (defArgs st) (defBody st) (defScope st) .none kV doc pm an cdv ct) ⟨us,[]⟩ = pure (ps.zip us))
    (ok:∀ f fd,Fun K "__init__" (cls ++ ".__init__") st f fd → FnOk P w K mg base CX0 k f fd ps (spRc K cls [] [] ns ts F)):DefW P w K mg base k cls ps ns ts F:=by
  cases d with
  | mk C f fd a m1 m2 m3 m4 D=>exact ⟨C,f,fd,⟨m1,m2,m3,m4⟩,ok f fd D,PySem.W.mg_of X G a,a,D.binds hb⟩
end
section
variable {X:Cx} {O:Ow} {e tg:Expr} {pos:Pos} {fx:Rho → Option (PyData × Rho)} {S:PyData → Rho → Option Rho}
noncomputable def asgX (S:PyData → Rho → Option Rho) (x:Option (PyData × Rho)):Option Out:=x.bind fun r=>(S r.1 r.2).map .nx
theorem s_asgX (he:PX X O e fx) (hg:PGv X O tg S) (hs:autoParam (swapsWithSole [tg] e pos.line X.env = pure false) L2.ar._auto_1) (hw:autoParam (swappedStores [tg] e X.env = pure none) L2.ar._auto_1) (h1:autoParam ((assignEach [tg] X.env).map (·.2) = [assign tg X.env]) L2.ar._auto_1) :
    PSv X O (.Assign [tg] e pos) (fun ρ=>asgX S (fx ρ)):=(ps_asg he hg hs hw h1).imp fun D σ H zpat=>by
  obtain ⟨hid,H0,ρ,ow,o,E,hf,k⟩:=zpat
  obtain ⟨r,g1,g2⟩:=bind_some hf
  obtain ⟨ρ',g3,rfl⟩:=map_some g2
  exact ⟨hid,H0,ρ,ow,r,E,g1,fun v H' E' s Dv=>⟨hid,H0,r.2,ow,r.1,ρ',E',Dv,g3,fun σ' E2=>k σ' H' ow s E2⟩⟩
end
end L2
namespace L2
open PySem PySem.Spec PyProof.Rows
variable [Reg]
section
variable {K:PySem.W.Frag} {H C:Hp}
inductive PutIx (K:PySem.W.Frag) (H C:Hp) (t:Ty) (vs:List V) (ds:List PyData) (as:List Addr) (k:Nat) (d:PyData):Prop
  | mk (w:V) (bs cs:List Addr) (hw:vs[k]? = some w) (D:DenO K H C t w d bs) (sp:∀ p,p ∈ as ↔ p ∈ bs ∨ p ∈ cs) (dj:∀ p ∈ bs,p ∉ cs)
      (put:∀ (H' C':Hp) (d':PyData) (bs':List Addr),Same C C' → (∀ p ∈ cs,∀ o,H p = some o → H' p = some o) → DenO K H' C' t w d' bs' → (∀ p ∈ bs',p ∉ cs) →
        ∃ as',DenOs K H' C' t vs (ds.set k d') as' ∧ ∀ p,p ∈ as' ↔ p ∈ bs' ∨ p ∈ cs):PutIx K H C t vs ds as k d
theorem DenOs.put {t:Ty} {vs:List V} {ds:List PyData} {as:List Addr} (h:DenOs K H C t vs ds as):∀ {k:Nat} {d:PyData},ds[k]? = some d → PutIx K H C t vs ds as k d:=
  h.ind (P:=fun vs ds as=>∀ {k:Nat} {d:PyData},ds[k]? = some d → PutIx K H C t vs ds as k d) (fun e=>by rw [List.getElem?_nil] at e; cases e) fun {v d0 vs ds as bs} h0 r n ih {k d} e=>by
    cases k with
    | zero=>
      obtain rfl:d0 = d:=by simpa using e
      refine ⟨v,as,bs,rfl,h0,fun p=>List.mem_append,n,fun H' C' d' bs' c kp D dj=>⟨bs' ++ bs,.cons D (r.mono c fun p hp o=>kp p hp o) dj,fun p=>List.mem_append⟩⟩
    | succ k=>
      obtain ⟨w,b1,c1,hw,D,sp,dj,put⟩:=ih (k:=k) (d:=d) (by simpa using e)
      refine ⟨w,b1,as ++ c1,by simpa using hw,D,fun p=>?_,fun p hp z=>?_,fun H' C' d' bs' c kp D' dj'=>?_⟩
      · rw [List.mem_append,List.mem_append,sp]
        constructor
        · rintro (z | z | z)
          · exact .inr (.inl z)
          · exact .inl z
          · exact .inr (.inr z)
        · rintro (z | z | z)
          · exact .inr (.inl z)
          · exact .inl z
          · exact .inr (.inr z)
      · rcases List.mem_append.mp z with z | z
        · exact n p z ((sp p).mpr (.inl hp))
        · exact dj p hp z
      · obtain ⟨as',q1,q2⟩:=put H' C' d' bs' c (fun p hp=>kp p (List.mem_append_right _ hp)) D' fun p hp z=>dj' p hp (List.mem_append_right _ z)
        refine ⟨as ++ as',.cons (h0.mono c fun p hp o=>kp p (List.mem_append_left _ hp) o) q1 fun p hp z=>?_,fun p=>?_⟩
        · rcases (q2 p).mp z with z | z
          · exact dj' p z (List.mem_append_left _ hp)
          · exact n p hp ((sp p).mpr (.inr z))
        · rw [List.mem_append,List.mem_append,q2]
          constructor
          · rintro (z | z | z)
            · exact .inr (.inl z)
            · exact .inl z
            · exact .inr (.inr z)
          · rintro (z | z | z)
            · exact .inr (.inl z)
            · exact .inl z
            · exact .inr (.inr z)
end
noncomputable def methIx (i:Nat) (fb:Rho → Option PyData) (F:List PyData → Option (PyData × PyData)) (fs:Rho → Option (List PyData)) (ρ:Rho):Option Out:=((ρ[i]?).join.bind isL).bind fun ls=>((fb ρ).bind intO).bind fun k=>(ixN ls.length k).bind fun j=>(ls[j]?).bind fun d0=>(fdsD d0).bind fun _=>(fs ρ).bind fun ds=>(F (d0 :: ds)).map fun r=>.nx (ρ.set i (some (.list (ls.set j r.2))))
inductive IxAt (K:PySem.W.Frag) (O:Ow) (hid:Addr → Prop) (σ:St) (H:Hp) (ρ:Rho) (ow:List Addr) (i j:Nat) (cls:Str) (ns:List Str) (ts:List Ty) (ls:List PyData) (d0:PyData):Prop
  | mk (A:Nat → List Addr) (EA:OwnA K O hid σ H ρ ow A) (a b D dx:Addr) (vs:List V) (fs:List (Str × V)) (as bs cs:List Addr) (hl:i < ρ.length) (hv:σ[i]? = some (some (.ref a))) (hA:A i = a :: as) (na:a ∉ as) (hH:H a = some (.lst vs)) (hj:vs[j]? = some (.ref b)) (hlen:vs.length = ls.length) (hb:H b = some (.ins D dx fs)) (hn:PySem.W.nsIn K mainGlobals cls = some (some (.ref D))) (hf:fs.map (·.1) = ns)
      (D0:DenO K H (del H (uni hid ow)) (.rc none cls ns ts) (.ref b) d0 bs) (sp:∀ p,p ∈ as ↔ p ∈ bs ∨ p ∈ cs) (dj:∀ p ∈ bs,p ∉ cs)
      (put:∀ (H' C':Hp) (d':PyData) (bs':List Addr),Same (del H (uni hid ow)) C' → (∀ p ∈ cs,∀ o,H p = some o → H' p = some o) → DenO K H' C' (.rc none cls ns ts) (.ref b) d' bs' → (∀ p ∈ bs',p ∉ cs) →
        ∃ as',DenOs K H' C' (.rc none cls ns ts) vs (ls.set j d') as' ∧ ∀ p,p ∈ as' ↔ p ∈ bs' ∨ p ∈ cs):IxAt K O hid σ H ρ ow i j cls ns ts ls d0
section
variable {X:Cx} {O:Ow} {a b:Expr} {es:List Expr} {fb:Rho → Option PyData} {fs:Rho → Option (List PyData)} {i k:Nat} {x m cls:Str} {ns ps:List Str} {ts:List Ty} {F:List PyData → Option (PyData × PyData)} {p ip apos cpos pos:Pos} {pl:Sem Bool}
theorem EnvOk.ixAt {K:PySem.W.Frag} {hid:Addr → Prop} {H0 H:Hp} {σ:St} {ρ:Rho} {ow:List Addr} (E:EnvOk K O hid H0 σ H ρ ow) {j:Nat} {ls:List PyData} {d0:PyData} {fd:List PyData} (hO:O.s.lookup i = some (.lst (.rc none cls ns ts))) (hρ:(ρ[i]?).join.bind isL = some ls) (hj:ls[j]? = some d0) (hd:fdsD d0 = some fd):IxAt K O hid σ H ρ ow i j cls ns ts ls d0:=by
  obtain ⟨d,h1,h2⟩:=bind_some hρ
  have h1:=join_some h1
  obtain ⟨A,EA⟩:=E.own
  obtain ⟨v,hv,D⟩:=EA.1 i _ d hO h1
  have hl:=(List.getElem?_eq_some_iff.mp h1).1
  generalize hA:A i = Ai at D
  cases D with
  | non=>cases h2
  | @lst _ a vs ds' as hH q na=>
    obtain rfl:ds' = ls:=Option.some.inj h2
    obtain ⟨w,bs,cs,hw,D0,sp,dj,put⟩:=q.put hj
    have D1:=D0
    cases D0 with
    | non=>cases hd
    | @rc _ _ _ _ b D dx fs ds2 as2 ho hH2 hn hf q2 na2=>exact ⟨A,EA,a,b,D,dx,vs,fs,as,_,cs,hl,hv,hA,na,hH,hw,q.length,hH2,hn,hf,D1,sp,dj,put⟩
theorem IxAt.lend {K:PySem.W.Frag} {hid:Addr → Prop} {H0 H:Hp} {σ:St} {ρ:Rho} {ow:List Addr} {j:Nat} {ls:List PyData} {d0:PyData} (Z:IxAt K O hid σ H ρ ow i j cls ns ts ls d0) (E:EnvOk K O hid H0 σ H ρ ow) {ds:List PyData} {us:List V} {r:PyData × PyData} {b':Addr} {vs':List V} {a':Addr} (hO:O.s.lookup i = some (.lst (.rc none cls ns ts))) (ha':σ[i]? = some (some (.ref a'))) (hvs':H a' = some (.lst vs')) (hb':vs'[j]? = some (.ref b')) (Du:DenL K (del H (uni hid ow)) us ds) (hF:F (d0 :: ds) = some r) {Q:VK}
    (k:∀ v H' ow',Same (del H (uni hid ow)) (del H' (uni hid ow')) → EnvOk K O hid H0 σ H' (ρ.set i (some (.list (ls.set j r.2)))) ow' → Q v H'):SpRc K cls ns ts ns ts F (.ref b' :: us) H Q:=by
  obtain ⟨A,EA,a,b,D,dx,vs,fs,as,bs,cs,hl,hv,hA,na,hH,hj,hlen,hb,hn,hf,D0,sp,dj,put⟩:=Z
  rw [ha'] at hv
  obtain rfl:a' = a:=by injection hv with z; injection z with z; injection z
  rw [hvs'] at hH
  obtain rfl:vs' = vs:=by injection hH with z; injection z
  rw [hb'] at hj
  obtain rfl:b' = b:=by injection hj with z; injection z
  have a3:∀ q,q = a' ∨ q ∈ bs ∨ q ∈ cs → q ∈ ow:=fun q z=>EA.2.2 i q (by
    rw [hA]
    rcases z with z | z
    · rw [z]; exact List.mem_cons_self
    · exact List.mem_cons_of_mem _ ((sp q).mpr z))
  have nh:∀ q,q ∈ ow → ¬ hid q:=fun q y z=>(E.isl q y).2 z
  have nab:a' ∉ bs:=fun z=>na ((sp a').mpr (.inl z))
  have nac:a' ∉ cs:=fun z=>na ((sp a').mpr (.inr z))
  have eu:uni (fun q=>uni hid ow q ∧ q ∉ bs) bs = uni hid ow:=by
    funext q
    apply propext
    constructor
    · rintro (z | z)
      · exact z.1
      · exact .inr (a3 q (.inr (.inl z)))
    · intro z
      by_cases y:q ∈ bs
      · exact .inr y
      · exact .inl ⟨z,y⟩
  refine ⟨fun q=>uni hid ow q ∧ q ∉ bs,b',bs,us,d0,ds,r,rfl,fun q z=>E.uniL q z.1,fun q z y=>y.2 z,by rw [eu]; exact D0,by rw [eu]; exact Du,hF,fun v as' H' s n D' Dv=>?_⟩
  have live:∀ q,q ∈ ow → H q ≠ none:=fun q y z=>by
    obtain ⟨⟨o,e⟩,_⟩:=E.isl q y
    rw [z] at e
    cases e
  have dc:∀ q ∈ as',q ∉ cs:=fun q hq z=>by
    rcases n q hq with y | y
    · exact dj q y z
    · exact live q (a3 q (.inr (.inr z))) y
  have da:a' ∉ as':=fun hq=>by
    rcases n a' hq with y | y
    · exact nab y
    · exact live a' (a3 a' (.inl rfl)) y
  have eu2:∀ as2:List Addr,(∀ q,q ∈ as2 ↔ q = a' ∨ q ∈ as' ∨ q ∈ cs) → uni (fun q=>uni hid ow q ∧ q ∉ bs) as' = uni hid (as2 ++ restO ow (A i)):=fun as2 h2=>by
    funext q
    apply propext
    unfold uni
    simp only [List.mem_append,mem_restO,h2,hA,List.mem_cons,sp]
    constructor
    · rintro (⟨z | z,y⟩ | z)
      · exact .inl z
      · by_cases y1:q = a'
        · exact .inr (.inl (.inl y1))
        · by_cases y2:q ∈ cs
          · exact .inr (.inl (.inr (.inr y2)))
          · exact .inr (.inr ⟨z,fun w=>by rcases w with w | w | w; exact y1 w; exact y w; exact y2 w⟩)
      · exact .inr (.inl (.inr (.inl z)))
    · rintro (z | (z | z | z) | ⟨z,y⟩)
      · exact .inl ⟨.inl z,fun w=>nh q (a3 q (.inr (.inl w))) z⟩
      · exact .inl ⟨.inr (a3 q (.inl z)),fun w=>nab (z ▸ w)⟩
      · exact .inr z
      · exact .inl ⟨.inr (a3 q (.inr (.inr z))),fun w=>dj q w z⟩
      · exact .inl ⟨.inr z,fun w=>y (.inr (.inl w))⟩
  have sm:Same (del H (uni hid ow)) (del H' (uni (fun q=>uni hid ow q ∧ q ∉ bs) as')):=fun q o e=>by
    by_cases hq:uni hid ow q
    · rw [del_in hq] at e; cases e
    · rw [del_out hq] at e
      rw [del_out fun z=>?_]
      · exact s q o (fun z=>hq (.inr (a3 q (.inr (.inl z))))) e
      · rcases z with z | z
        · exact hq z.1
        · rcases n q z with y | y
          · exact hq (.inr (a3 q (.inr (.inl y))))
          · rw [y] at e; cases e
  obtain ⟨as2,q1,q2⟩:=put H' _ r.2 as' sm (fun q hq o e=>s q o (fun z=>dj q z hq) e) D' dc
  have hmem:∀ q,q ∈ a' :: as2 ↔ q = a' ∨ q ∈ as' ∨ q ∈ cs:=fun q=>by rw [List.mem_cons,q2]
  rw [eu2 _ hmem] at q1
  have na2:a' ∉ as2:=fun z=>by
    rcases (q2 a').mp z with z | z
    · exact da z
    · exact nac z
  obtain ⟨e1,e2⟩:=E.tree EA hO hl ha' (as2:=a' :: as2) (d2:=.list (ls.set j r.2)) (H2:=H') (fun q o z e=>s q o (fun y=>z (by rw [hA]; exact List.mem_cons_of_mem _ ((sp q).mpr (.inl y)))) e) (fun q hq=>by
    rcases (hmem q).mp hq with z | z | z
    · exact .inl (by rw [hA,z]; exact List.mem_cons_self)
    · rcases n q z with y | y
      · exact .inl (by rw [hA]; exact List.mem_cons_of_mem _ ((sp q).mpr (.inl y)))
      · exact .inr y
    · exact .inl (by rw [hA]; exact List.mem_cons_of_mem _ ((sp q).mpr (.inr z)))) (.lst (s a' _ nab hvs') q1 na2)
  exact k v H' _ e2 e1
theorem s_methIx (G:DefRc X.prog X.w X.K X.mg X.base k cls m ps ns ts F) (hr:Room k X.A) (hx:PE X (.Name x p) (tVar i)) (hb:PR X O b fb) (ha:PAv X O (a :: es) fs) (hO:autoParam (O.s.lookup i = some (.lst (.rc none cls ns ts))) L2.ar._auto_1) (hm:ns.contains m = false:=by decide +kernel) (hix:PlainIx b:=by intro _ _; rfl)
    (hst:autoParam (starEach (a :: es) X.env = (false,eval a X.env) :: starEach es X.env) L2.ar._auto_1) (hpl:autoParam ((backTo cpos (starEach es X.env)).any (·.1) = false) L2.ar._auto_1)
    (ht:autoParam (eval (.Call (.Attribute (.Subscript (.Name x p) b ip) m apos) (a :: es) [] cpos) X.env = (do
      let ov ← eval (.Subscript (.Name x p) b ip) X.env
      standAt apos.atName
      let (f,first) ← holding [ov] (getMethod ov m pl)
      callWith cpos f first (backTo cpos (starEach (a :: es) X.env)) (backToKw cpos (keywordEach [] X.env)))) L2.ar._auto_1)
    (hs:autoParam (swapsWith (.Call (.Attribute (.Subscript (.Name x p) b ip) m apos) (a :: es) [] cpos) none pos.line X.env = pure false) L2.ar._auto_1) :
    PSv X O (.Expr (.Call (.Attribute (.Subscript (.Name x p) b ip) m apos) (a :: es) [] cpos) pos) (methIx i fb F fs):=by
  obtain ⟨C,f,fd,c,hm',g1,g2,g3⟩:=G
  exact (ps_expr (pe_meth (pl:=pl) (pe_ix ix_list hx hb hix) c hm' g1 hr g3 .nil pass0 ha hst hpl ht) hs).imp fun D σ H zpat=>by
    obtain ⟨hid,H0,ρ,ow,o,E,hf,q⟩:=zpat
    obtain ⟨ls,e0,hf⟩:=bind_some hf
    obtain ⟨kk,e1,hf⟩:=bind_some hf
    obtain ⟨j,e2,hf⟩:=bind_some hf
    obtain ⟨d0,e3,hf⟩:=bind_some hf
    obtain ⟨fd0,e4,hf⟩:=bind_some hf
    obtain ⟨ds,e5,hf⟩:=bind_some hf
    obtain ⟨r,e6,rfl⟩:=map_some hf
    obtain ⟨dk,f1,f2⟩:=bind_some e1
    obtain rfl:=intO_some f2
    obtain ⟨A,EA,a',b',D',dx,vs,fs',as,bs,cs,hl,hv,_⟩:=E.ixAt hO e0 e3 e4
    refine ⟨.ref a',hv,hid,H0,ρ,ow,.int kk,E,f1,fun y H1 s1 Dk=>?_⟩
    have E1:=E.mono s1
    have Z:=E1.ixAt hO e0 e3 e4
    obtain ⟨A1,EA1,a1,b1,D1,dx1,vs1,fs1,as1,bs1,cs1,hl1,hv1,hA1,na1,hH1,hj1,hlen1,hb1,hn1,hf1,_⟩:=E1.ixAt hO e0 e3 e4
    rw [hv1] at hv
    obtain rfl:a1 = a':=by injection hv with z; injection z with z; injection z
    rw [g2] at hn1
    obtain rfl:C = D1:=by injection hn1 with z; injection z with z; injection z
    rw [den_int Dk]
    refine ⟨a1,vs1,kk,.ref b1,rfl,rfl,SqL.of hH1,?_,b1,dx1,fs1,rfl,hb1,look_no (by rw [hf1]; exact hm),hid,H0,ρ,ow,ds,E1,e5,fun us H2 s2 D2=>?_⟩
    · unfold atI
      rw [hlen1,e2]
      exact hj1
    dsimp only
    rw [List.append_nil]
    have Z2:=(E1.mono s2).ixAt hO e0 e3 e4
    exact Z2.lend (E1.mono s2) hO hv1 (s2 _ _ hH1) hj1 D2 e6 fun v H' ow' s3 E3=>q σ H' ow' (((del_mono s1 _).trans (del_mono s2 _)).trans s3) E3
end
end L2
namespace L2
open PySem PySem.Spec PyProof.Rows
variable [Reg]
noncomputable def scD:PyData → Bool
  | .none=>true
  | .bool _=>true
  | .int _=>true
  | .str _=>true
  | _=>false
theorem den_sc {K:PySem.W.Frag} {H:Hp} {v:V} {d:PyData} (h:Den K H v d) (q:scD d = true):Sc v d:=by
  cases h with
  | non=>exact .non
  | bl b=>exact .bl b
  | int i=>exact .int i
  | str x=>exact .str x
  | _=>cases q
theorem denL_sc {K:PySem.W.Frag} {H G:Hp}:∀ {vs:List V} {ds:List PyData},DenL K H vs ds → ds.all scD = true → DenL K G vs ds
  | [],[],_,_=>.nil
  | _ :: _,_ :: _,.cons h r,q=>by
    rw [List.all_cons,Bool.and_eq_true] at q
    exact .cons (den_sc h q.1).den (denL_sc r q.2)
section
variable {X:Cx} {O:Ow} {e a b o:Expr} {es:List Expr} {f fa fb fo:Rho → Option PyData} {fs:Rho → Option (List PyData)} {k:Nat} {m x cls:Str} {ps:List Str} {T:Ty} {Ts:List Ty} {U:List Nat} {F:List PyData → Option PyData} {p pos apos cpos:Pos} {pl:Sem Bool}
theorem PFr.nw (h:PFr X O e fs):PFt X O .nw e (fun ρ=>((fs ρ).filter (·.all scD)).map .list):=h.imp fun σ H Q zpat=>by
  obtain ⟨hid,H0,ρ,ow,d,E,hf,k⟩:=zpat
  obtain ⟨ds,h1,rfl⟩:=map_some hf
  obtain ⟨h1,h2⟩:=Option.filter_eq_some_iff.mp h1
  refine ⟨hid,H0,ρ,ow,ds,E,h1,fun l vs H' s n q D=>k (.ref l) [l] H' s (fun p hp=>by rw [List.mem_singleton.mp hp]; exact n) (.nw (fun p hp=>⟨.l vs,by rw [List.mem_singleton.mp hp]; exact q⟩) (.lst (SqL.of ?_) (denL_sc D h2)))⟩
  rw [del_out fun z=>z (List.mem_singleton.mpr rfl)]
  exact q
theorem PR.nw (h:PR X O e f):PFt X O .nw e (fun ρ=>(f ρ).filter scD):=h.imp fun σ H Q zpat=>by
  obtain ⟨hid,H0,ρ,ow,d,E,hf,k⟩:=zpat
  obtain ⟨h1,h2⟩:=Option.filter_eq_some_iff.mp hf
  exact ⟨hid,H0,ρ,ow,d,E,h1,fun v H' s D=>k v [] H' s (fun p hp=>by cases hp) (.nw (fun p hp=>by cases hp) (den_sc D h2).den)⟩
theorem ft_if {t:Expr} {ga:Rho → Option Bool} (ht:PTv X O t ga) (ha:PFt X O T a fa) (hb:PFt X O T b fb):PFt X O T (.IfExp t a b pos) (fun ρ=>condO (ga ρ) (fa ρ) (fb ρ)):=
  (pe_ifExp ht ha hb).imp fun σ H Q zpat=>by
    obtain ⟨hid,H0,ρ,ow,k,E,hf,q⟩:=zpat
    obtain ⟨c,h1,h2⟩:=bind_some hf
    refine ⟨hid,H0,ρ,ow,c,E,h1,fun H1 s1=>?_⟩
    cases c with
    | true=>rw [if_pos rfl] at h2 ⊢; exact ⟨hid,H0,ρ,ow,k,E.mono s1,h2,fun w as H2 s2 n2 D2=>q w as H2 (s1.trans s2) (fun p hp=>s1.free (n2 p hp)) D2⟩
    | false=>rw [if_neg Bool.false_ne_true] at h2 ⊢; exact ⟨hid,H0,ρ,ow,k,E.mono s1,h2,fun w as H2 s2 n2 D2=>q w as H2 (s1.trans s2) (fun p hp=>s1.free (n2 p hp)) D2⟩
theorem ft_callM0 (G:DefM X.prog X.w X.K X.mg X.base k cls m ps T F) (hr:Room k X.A) (ho:PV X O o fo)
    (ht:autoParam (eval (.Call (.Attribute o m apos) [] [] cpos) X.env = (do
      let ov ← eval o X.env
      standAt apos.atName
      let (f,first) ← holding [ov] (getMethod ov m pl)
      callWith cpos f first (backTo cpos (starEach [] X.env)) (backToKw cpos (keywordEach [] X.env)))) L2.ar._auto_1) :
    PFt X O T (.Call (.Attribute o m apos) [] [] cpos) (callM cls m F fo fun _=>some []):=by
  obtain ⟨C,f,fd,c,hm',g1,g2,g3⟩:=G
  exact (pe_meth0 (pl:=pl) ho c hm' g1 hr g3 .nil pass0 ht).imp fun σ H Q zpat=>by
    obtain ⟨hid,H0,ρ,ow,r,E,hf,q⟩:=zpat
    obtain ⟨d,e1,hf⟩:=bind_some hf
    split at hf
    case isFalse=>cases hf
    rename_i hob
    obtain ⟨ds,e2,e3⟩:=bind_some hf
    obtain rfl:=Option.some.inj e2
    refine ⟨hid,H0,ρ,ow,d,E,e1,fun v H1 s1 D1=>?_⟩
    obtain ⟨b,C',dx,fs',rfl,h1,h2,h3⟩:=isObD_some D1 hob
    rw [g2] at h2
    obtain rfl:C = C':=by injection h2 with z; injection z with z; injection z
    refine ⟨b,dx,fs',rfl,del_same _ _ _ _ h1,h3,?_⟩
    refine ⟨uni hid ow,[d],r,(E.mono s1).uniL,.cons D1 .nil,e3,fun v as H3 s3 n3 D3=>q v as H3 (s1.trans s3) (fun p hp=>s1.free (n3 p hp)) (D3.mono (del_sub fun b z=>?_) fun p _ o e=>e)⟩
    rcases z with z | z
    · exact .inl (.inl z)
    · rcases List.mem_append.mp z with z | z
      · exact .inr z
      · exact .inl (.inr z)
theorem DenOp.news {K:PySem.W.Frag} {H C:Hp} {ts:List Ty} {vs:List V} {ds:List PyData} {as:List Addr} (h:DenOp K H C ts vs ds as):∀ {bs:List Addr},ts.all (fun t=>match t with | .nw=>true | _=>false) = true → (∀ p ∈ as,p ∈ bs) → DenL K (del H fun b=>b ∉ bs) vs ds:=
  h.ind (P:=fun ts vs ds as=>∀ {bs:List Addr},ts.all (fun t=>match t with | .nw=>true | _=>false) = true → (∀ p ∈ as,p ∈ bs) → DenL K (del H fun b=>b ∉ bs) vs ds) (fun _ _=>.nil) fun {t ts v d vs ds as cs} h0 r n ih bs q hb=>by
    rw [List.all_cons,Bool.and_eq_true] at q
    refine .cons ?_ (ih q.2 fun p hp=>hb p (List.mem_append_right _ hp))
    cases h0 with
    | non=>exact .non
    | nw _ D=>exact D.mono (same_on fun p hp o e=>by rw [del_out fun z=>z (hb p (List.mem_append_left _ hp))]; exact e)
    | _=>cases q.1
theorem rt_lstN (h:PRa X O U Ts es fs) (ht:autoParam (Ts.all (fun t=>match t with | .nw=>true | _=>false) = true) L2.ar._auto_1):PRt X O U .nw (.List es pos) (fun ρ=>(shortL (fs ρ)).map .list):=(pe_lst h).imp fun σ H Q zpat=>by
  refine L2.o_EEEEEEAAA (zpat) fun hid H0 ρ ow r A E EA hf k=>?_
  obtain ⟨ds,hg,rfl⟩:=map_some hf
  refine L2.o_A (shortL_some hg) fun h1 h2=>?_
  refine L2.i_EEEEEEAAA (hid) (H0) (ρ) (ow) (ds) (A) (E) (EA) (h1) (fun vs as H1 s1 n1 D1=>⟨by rw [D1.length]; exact h2,fun p hp=>?_⟩)
  have np:∀ q ∈ as,q ≠ p:=fun q hq z=>by
    refine L2.o_E (D1.lists q hq) fun ws e=>?_
    rw [z,hp] at e
    cases e
  refine k _ (p :: as) _ (s1.trans (same_new hp)) (fun q hq=>?_) (.nw (fun q hq=>?_) (.lst (SqL.of ?_) ((D1.news (bs:=p :: as) ht fun q hq=>List.mem_cons_of_mem _ hq).mono (same_on2 fun q _ o e=>same_new hp q o e))))
  · rcases List.mem_cons.mp hq with z | z
    · rw [z]; exact .inl (s1.free hp)
    · exact n1 q z
  · rcases List.mem_cons.mp hq with z | z
    · rw [z,upd_same]; exact ⟨.l _,rfl⟩
    · obtain ⟨o,e⟩:=D1.lists q z
      exact ⟨o,same_new hp q _ e⟩
  · rw [del_out fun z=>z List.mem_cons_self,upd_same]
theorem v_callNw (G:DefOk X.prog X.w X.K X.mg X.base k x ps .nw F) (hr:Room k X.A) (hg:Gl X x) (ha:PAr X O (a :: es) fs) (hdb:autoParam ((x == ("__debug__":Str)) = false) L2.ad._auto_1) (he:autoParam (starEach (a :: es) X.env = (false,eval a X.env) :: starEach es X.env) L2.ar._auto_1) (hpl:autoParam ((backTo pos (starEach es X.env)).any (·.1) = false) L2.ar._auto_1) :
    PV X O (.Call (.Name x p) (a :: es) [] pos) (fun ρ=>(fs ρ).bind F):=by
  refine L2.o_EEAAAA (G) fun f fd g1 g2 g3 g4 _=>?_
  exact (pe_call g1 hr hg g2 g3 g4 .nil pass0 ha hdb he hpl).imp fun σ H Q zpat=>by
    obtain ⟨hid,H0,ρ,ow,r,E,hf,q⟩:=zpat
    obtain ⟨ds,h1,h2⟩:=bind_some hf
    refine ⟨hid,H0,ρ,ow,ds,E,h1,fun vs H1 s1 D1=>⟨hid,ds,r,(E.mono s1).ishL,by rw [List.append_nil]; exact D1,h2,fun v as H2 s2 n2 D2=>q v H2 (s1.trans s2) ?_⟩⟩
    cases D2 with
    | non=>exact .non
    | nw l D=>exact D.mono (same_on fun p hp o e=>by rw [del_out fun z=>(E.mono s1).fresh (n2 p hp) z]; exact e)
end
end L2
namespace L2
open PySem PySem.Spec PyProof.Rows
variable [Reg]
section
variable {X:Cx} {O:Ow}
theorem Inv.swap {pins pl pl':List (Addr × Obj)} {σ:St} {H:Hp} {s:Shared} {a:Addr} {h':Heap} {t':Nat} (I:Inv X (pins ++ pl) σ H s) (f:FpOk X pins H a) (k:∀ b o,b ≠ a → s.heap.get? b = some o → h'.get? b = some o)
    (hp:∀ p ∈ pl',(p ∈ pl ∧ p.1 ≠ a) ∨ (p.1 = a ∧ h'.get? a = some p.2 ∧ ∀ v,p.2.data ≠ .cell v)):Inv X (pins ++ pl') σ H { s with heap:=h',toks:=t' }:=by
  refine L2.o_AAAAA (f) fun f0 f1 f2 f3 f4 f5=>?_
  have I1:Inv X pins σ H { s with heap:=h',toks:=t' }:=I.unpinned.turned (t':=t') k f0 f1 f3 f4 f5
  refine I1.pins_of fun p hm=>?_
  rcases List.mem_append.mp hm with hm | hm
  · exact I1.pin p (List.mem_append_right _ hm)
  · rcases hp p hm with ⟨h1,h2⟩ | ⟨h1,h2,h3⟩
    · refine L2.o_A (I.pin p (List.mem_append_right _ (List.mem_append_right _ h1))) fun g1 g2=>?_
      exact ⟨k _ _ h2 g1,g2⟩
    · exact ⟨by rw [h1]; exact h2,by rw [h1]; exact f0,by rw [h1]; exact f1,by rw [h1]; exact f2,h3⟩
theorem seq_nocell {c:String} {xs:Array Value} {n:Nat}:∀ v,(seqObj c xs n).data ≠ .cell v:=fun v z=>by cases z
noncomputable def minI (n:Int) (ns:List Int):Int:=ns.foldl (fun a b=>if b < a then b else a) n
noncomputable def maxI (n:Int) (ns:List Int):Int:=ns.foldl (fun a b=>if b > a then b else a) n
theorem minI_is:∀ (ns:List Int) (n:Int),minI n ns ∈ n :: ns ∧ ∀ a ∈ n :: ns,minI n ns ≤ a
  | [],n=>⟨by simp [minI],fun a h=>by simp at h; subst h; exact Int.le_refl _⟩
  | m :: r,n=>by
    by_cases hmn:m < n
    · have e:minI n (m :: r) = minI m r:=by unfold minI; rw [List.foldl_cons,if_pos hmn]
      rw [e]
      refine L2.o_A (minI_is r m) fun h1 h2=>?_
      have h3:=h2 _ List.mem_cons_self
      refine ⟨List.mem_cons_of_mem _ h1,fun a ha=>?_⟩
      rcases List.mem_cons.mp ha with rfl | ha
      · (clear e h2; omega)
      · exact h2 a ha
    · have e:minI n (m :: r) = minI n r:=by unfold minI; rw [List.foldl_cons,if_neg hmn]
      rw [e]
      refine L2.o_A (minI_is r n) fun h1 h2=>?_
      have h3:=h2 _ List.mem_cons_self
      refine ⟨?_,fun a ha=>?_⟩
      · rcases List.mem_cons.mp h1 with h1 | h1
        · rw [h1]; exact List.mem_cons_self
        · exact List.mem_cons_of_mem _ (List.mem_cons_of_mem _ h1)
      · rcases List.mem_cons.mp ha with rfl | ha
        · exact h3
        · rcases List.mem_cons.mp ha with rfl | ha
          · (clear e h2; omega)
          · exact h2 a (List.mem_cons_of_mem _ ha)
theorem maxI_is:∀ (ns:List Int) (n:Int),maxI n ns ∈ n :: ns ∧ ∀ a ∈ n :: ns,a ≤ maxI n ns
  | [],n=>⟨by simp [maxI],fun a h=>by simp at h; subst h; exact Int.le_refl _⟩
  | m :: r,n=>by
    by_cases hmn:m > n
    · have e:maxI n (m :: r) = maxI m r:=by unfold maxI; rw [List.foldl_cons,if_pos hmn]
      rw [e]
      refine L2.o_A (maxI_is r m) fun h1 h2=>?_
      have h3:=h2 _ List.mem_cons_self
      refine ⟨List.mem_cons_of_mem _ h1,fun a ha=>?_⟩
      rcases List.mem_cons.mp ha with rfl | ha
      · (clear e h2; omega)
      · exact h2 a ha
    · have e:maxI n (m :: r) = maxI n r:=by unfold maxI; rw [List.foldl_cons,if_neg hmn]
      rw [e]
      refine L2.o_A (maxI_is r n) fun h1 h2=>?_
      have h3:=h2 _ List.mem_cons_self
      refine ⟨?_,fun a ha=>?_⟩
      · rcases List.mem_cons.mp h1 with h1 | h1
        · rw [h1]; exact List.mem_cons_self
        · exact List.mem_cons_of_mem _ (List.mem_cons_of_mem _ h1)
      · rcases List.mem_cons.mp ha with rfl | ha
        · exact h3
        · rcases List.mem_cons.mp ha with rfl | ha
          · (clear e h2; omega)
          · exact h2 a (List.mem_cons_of_mem _ ha)
noncomputable def minLD:PyData → Option PyData
  | .list ds=>(intsO ds).bind fun ns=>match ns with | []=>none | n :: r=>some (.int (minI n r))
  | _=>none
section
variable {a:Expr} {fa:Rho → Option PyData} {pos p:Pos}
theorem call_minL (hc:X.calm = true):CallR X (.builtin "min") (fun xs H Q=>∃ (a:Addr) (n:Int) (ns:List Int),xs = [.ref a] ∧ SqL X.K H a ((n :: ns).map V.int) ∧ Q (.int (minI n ns)) H):=by
  intro pins s σ H xs us Q I r h
  revert h
  refine fun zqq=>L2.o_EEEAA zqq fun q n ns zq3 hq k=>?_
  clear zqq
  subst zq3
  refine L2.o_EA (vals1 r) fun u zq1 rx=>?_
  subst zq1
  cases rx
  refine L2.o_EAA (I.list hq) fun its r' pl hz=>?_
  have hI:=intsAre_of r'
  refine L2.o_E (hI.allInts.items) fun zs e=>?_
  have hns:n :: ns = zs.toList.map (·.1):=by
    rw [← hI.numsOf,← nums_intItems,← e]
  have hsz:0 < zs.size:=by
    have h3:(n :: ns).length = (zs.toList.map (·.1)).length:=by rw [hns]
    rw [List.length_map] at h3; simp at h3; (clear hz; omega)
  have hl:=pl.isList
  rw [e] at hl
  refine min_intList (I.ok.hd hc) hl hsz fun v h' tk hv hk=>?_
  refine L2.o_E (intItems_at hv) fun t zq1=>?_
  subst zq1
  refine L2.o_A (argBest_lt (numAt zs) (zs.size - 1)) fun h1 h2=>?_
  refine L2.o_A (minI_is ns n) fun g1 g2=>?_
  have a1:numAt zs (argBest (fun i j=>decide (numAt zs i < numAt zs j)) (zs.size - 1)) ∈ n :: ns:=by rw [hns,numAt_eq]; exact getD_mem (by rw [List.length_map,Array.length_toList]; (clear g2 h2 hv hz; omega))
  have a2:=g2 _ a1
  rw [hns] at g1
  refine L2.o_EA (mem_getD g1) fun j hj ej=>?_
  rw [List.length_map,Array.length_toList] at hj
  rw [← numAt_eq] at ej
  have a3:=h2 j (by (clear ej a2 a1 g2 h2 h1 hv hsz hz; omega))
  have a4:numAt zs (argBest (fun i j=>decide (numAt zs i < numAt zs j)) (zs.size - 1)) = minI n ns:=by rw [← ej] at a2 ⊢; (clear ej hj a1 g2 h2 h1 hv hsz hz; omega)
  rw [a4]
  exact ⟨.int _,H,I.kept (t':=tk) hk,⟨t,rfl⟩,k⟩
theorem v_minL (hc:X.calm = true) (hg:Gl X "min") (hm:X.mg "min" = none) (ha:PR X O a fa) (he:autoParam (starEach [a] X.env = (false,eval a X.env) :: starEach [] X.env) L2.ar._auto_1) (hpl:autoParam ((backTo pos (starEach [] X.env)).any (·.1) = false) L2.ar._auto_1)
    (hv:bootBuiltins "min" = some (.builtin "min"):=by decide +kernel):PV X O (.Call (.Name "min" p) [a] [] pos) (fun ρ=>(fa ρ).bind minLD):=
  (pe_callB (call_minL hc) hg hm hv (pa_cons ha pa_nil he) (by decide) (by decide) he hpl).imp fun σ H Q zpat=>by
    obtain ⟨hid,H0,ρ,ow,r,E,hf,k⟩:=zpat
    obtain ⟨d,h1,h2⟩:=bind_some hf
    refine ⟨hid,H0,ρ,ow,d,E,h1,fun x H1 s1 D1=>?_⟩
    unfold minLD at h2
    split at h2
    case h_2=>cases h2
    obtain ⟨ns,h3,h4⟩:=bind_some h2
    cases ns with
    | nil=>exact L2.no_ns h4
    | cons n ns=>
      obtain rfl:=Option.some.inj h4
      have e:=intsO_some h3
      subst e
      obtain ⟨q,vs,rfl,q1,r1⟩:=den_lst D1
      have e2:=r1.isInts
      subst e2
      exact L2.i_EEEAA (q) (n) (ns) (rfl) ((del_same _ _).seq q1) (k _ H1 s1 (.int _))
end
end
end L2
namespace L2
open PySem PySem.Spec PyProof.Rows
variable [Reg]
section
variable {X:Cx} {O:Ow} {e:Expr} {pos:Pos}
noncomputable def extD (i:Nat) (ρ:Rho) (zs:List PyData):Option Out:=((ρ[i]?).join.bind listD).bind fun ds=>if decide (ds.length + zs.length < 1000) = true then some (.nx (ρ.set i (some (.list (ds ++ zs))))) else none
theorem s_extend {i:Nat} {x:Str} {p apos cpos:Pos} {f:Rho → Option (List PyData)} (hx:PE X (.Name x p) (tVar i)) (he:PFc X O e f) (hO:autoParam (O.s.lookup i = some (.lst .cl)) L2.ar._auto_1)
    (hbase:autoParam (attributeBase (.Name x p) "extend" X.env (eval (.Name x p) X.env) = eval (.Name x p) X.env) L2.ar._auto_1)
    (hfew:autoParam (((backTo cpos (starEach [e] X.env)).all (fun x=>!x.1) && (backToKw cpos (keywordEach [] X.env)).all (fun x=>x.1.isSome) && decide ([e].length + ([]:List Keyword).length + (if ([]:List Keyword).isEmpty then 0 else 1) < 30)) = true) L2.ar._auto_1)
    (hline:autoParam ((apos.endLine == cpos.line) = true) L2.ar._auto_1) (hst:autoParam (starEach [e] X.env = (false,eval e X.env) :: starEach [] X.env) L2.ar._auto_1) (hplain:autoParam ((backTo cpos (starEach [] X.env)).any (·.1) = false) L2.ar._auto_1)
    (hs:autoParam (swapsWith (.Call (.Attribute (.Name x p) "extend" apos) [e] [] cpos) none pos.line X.env = pure false) L2.ar._auto_1) :
    PSv X O (.Expr (.Call (.Attribute (.Name x p) "extend" apos) [e] [] cpos) pos) (fun ρ=>(f ρ).bind (extD i ρ)):=
  (ps_expr (pe_bm PySem.F.plainAttrs_list PySem.F.slot_list_extend PySem.F.type_list_extend mt_extend (at_name hx hO) (pa_cons he pa_nil hst) hbase hfew hline hst hplain) hs).imp fun D σ H zpat=>by
    obtain ⟨hid,H0,ρ,ow,o,E,hf,k⟩:=zpat
    obtain ⟨zs,g1,g2⟩:=bind_some hf
    obtain ⟨ds,g3,g4⟩:=bind_some g2
    obtain ⟨dl,g5,g6⟩:=bind_some g3
    rw [listD_some g6] at g5
    split at g4
    case isFalse=>cases g4
    rename_i hlt
    obtain rfl:=Option.some.inj g4
    refine L2.i_EEEEEEEAAAAA (hid) (H0) (ρ) (ow) (.list ds) ([]) (ds) (E) (join_some g5) (rfl) (rfl) (rfl) (fun H1 l vs s1 hH hD hl hE=>⟨.inl ⟨rfl,vs,SqL.of hH⟩,hid,H0,ρ,ow,zs,E.mono s1,g1,fun b ws H2 s2 nb hb Dz=>?_⟩)
    have hz:1000 < sizeLine:=by decide
    have hlt':=of_decide_eq_true hlt
    refine L2.i_EEEEAAAAA (l) (b) (vs) (ws) (rfl) (rfl) (s2 _ _ hH) (hb) (by rw [hD.length,Dz.length]; (clear hlt g5 g3 hfew; omega)) (k _ _ ow ?_ (hE H2 s2 _ _ ((hD.mono (del_mono s2 _)).append (Dz.mono (del_sub (uni_mono fun p hp=>List.mem_cons_of_mem _ hp))))))
    rw [del_upd (uni_in hl)]
    exact (del_mono s1 _).trans (del_mono s2 _)
end
end L2
namespace L2
open PySem PySem.Spec PyProof.Rows PySem.W
noncomputable def ky (key:Nat → Int) (p:Array Nat) (i:Nat):Int:=key (p.getD i 0)
noncomputable def SoP (key:Nat → Int) (p:Array Nat) (k:Nat):Prop:=∀ i j,i ≤ j → j < k → ky key p i ≤ ky key p j
noncomputable def NiP (key:Nat → Int) (p:Array Nat) (k:Nat):Prop:=∀ i j,i ≤ j → j < k → ky key p j ≤ ky key p i
section
variable {key:Nat → Int} {p:Array Nat}
noncomputable abbrev cK (key:Nat → Int):Nat → Nat → Bool:=fun i j=>decide (key i < key j)
theorem SoP.snoc {n:Nat} (h1:1 ≤ n) (h:SoP key p n) (hl:¬ ky key p n < ky key p (n - 1)):SoP key p (n + 1):=fun i j hij hj=>by
  by_cases hjn:j < n
  · exact h i j hij hjn
  · have e:j = n:=by omega
    subst e
    by_cases hi:i = j
    · rw [hi]; exact Int.le_refl _
    · have:=h i (j - 1) (by omega) (by omega); omega
theorem NiP.snoc {n:Nat} (h1:1 ≤ n) (h:NiP key p n) (hl:ky key p n ≤ ky key p (n - 1)):NiP key p (n + 1):=fun i j hij hj=>by
  by_cases hjn:j < n
  · exact h i j hij hjn
  · have e:j = n:=by omega
    subst e
    by_cases hi:i = j
    · rw [hi]; exact Int.le_refl _
    · have:=h i (j - 1) (by omega) (by omega); omega
theorem NiP.congr {q:Array Nat} {n:Nat} (h:NiP key p n) (e:∀ k,ky key q k = ky key p k):NiP key q n:=fun i j hij hj=>by rw [e,e]; exact h i j hij hj
structure DsR (key:Nat → Int) (p:Array Nat) (n f:Nat) (r:Array Nat × Nat × Nat):Prop where
  perm:r.1.Perm p
  lo:n ≤ r.2.1
  hi:r.2.1 ≤ n + f
  ni:NiP key r.1 r.2.1
  q:r.2.2 + 1 ≤ r.2.1
  eq:∀ i,r.2.1 - (r.2.2 + 1) ≤ i → i < r.2.1 → ky key r.1 i = ky key r.1 (r.2.1 - 1)
structure CtR (key:Nat → Int) (p:Array Nat) (nrem:Nat) (r:Nat × Array Nat):Prop where
  perm:r.2.Perm p
  lo:1 ≤ r.1
  hi:r.1 ≤ nrem
  so:SoP key r.2 r.1
end
end L2
namespace L2
open PySem PySem.Spec PyProof.Rows PySem.W
variable [Reg]
noncomputable def AskOk {α:Type} (n:Nat) (Q:α → Prop):KasT α → Prop
  | .ret a=>Q a
  | .ask i j k=>i < n ∧ j < n ∧ ∀ b,AskOk n Q (k b)
theorem AskOk.bind {α β:Type} {n:Nat} {Q:α → Prop} {R:β → Prop} {f:α → KasT β} (hf:∀ a,Q a → AskOk n R (f a)):∀ t:KasT α,AskOk n Q t → AskOk n R (t.bind f)
  | .ret a,h=>hf a h
  | .ask i j k,h=>⟨h.1,h.2.1,fun b=>AskOk.bind hf (k b) (h.2.2 b)⟩
structure Elt (n:Nat) (p:Array Nat):Prop where
  pos:0 < n
  all:∀ x ∈ p.toList,x < n
theorem Elt.at {n:Nat} {p:Array Nat} (h:Elt n p) (i:Nat):p.getD i 0 < n:=by
  rw [Array.getD_eq_getD_getElem?]
  cases e:p[i]? with
  | none=>exact h.pos
  | some x=>
    refine h.all x ?_
    have:=Array.getElem?_toList (xs:=p) (i:=i)
    rw [e] at this
    exact List.mem_of_getElem? this
theorem Elt.perm {n:Nat} {p q:Array Nat} (h:Elt n p) (hp:q.Perm p):Elt n q:=⟨h.pos,fun x hx=>h.all x ((Array.perm_iff_toList_perm.mp hp).mem_iff.mp hx)⟩
theorem Elt.rev {n:Nat} {p:Array Nat} (h:Elt n p) (i j:Nat):Elt n (kas_rev p i j):=h.perm (mirror_perm _ _ _ _)
section
variable {X:Cx} {pins:List (Addr × Obj)} {σ:St} {H Hb:Hp} {s:Shared} {A:Around} {E:Value → Shared → Prop} {a kS:Addr} {keys:Array Value} {e e1:Nat} {P:PySem.Fin → Shared → Prop} {vs:List Value} {kz:List Int}
end
section
variable {X:Cx} {pins:List (Addr × Obj)} {σ:St} {H:Hp} {s:Shared} {E':Value → Shared → Prop} {vs:List Value} {kz:List Int} {xs:List V} {g:Addr} {Q:VK}
end
section
variable {X:Cx} {O:Ow} {pos p:Pos}
end
end L2
namespace L2
open PySem PySem.Spec PyProof.Rows
variable [Reg]
section
variable {X:Cx} {O:Ow}
noncomputable def maxOr (i:Int):List Int → Int
  | []=>i
  | n :: r=>maxI n r
theorem argsMaxD (a d:Value):argsOk "max" ⟨[a],[(Str.ofString "default",d)]⟩:=by unfold argsOk; kernel_rfl
theorem maxI_cons (b n:Int) (ns:List Int):maxI b (n :: ns) = maxI (if n > b then n else b) ns:=rfl
theorem maxD_loop {S it l:Addr} {pins:List (Addr × Obj)} {σ:St} {H:Hp} {xs:List V} {R:Result → Shared → Prop} {dv:Value}
    (hh:X.A.handled = none) (hSi:S ≠ it) (fS:∀ H,H S = none → FpOk X pins H S) (fI:∀ H,H it = none → FpOk X pins H it) (hl:SqL X.K H l xs) :
    ∀ (ns:List Int) (j:Nat) (s:Shared) (b:Int) (tb:Tok) (c:Nat) (oI:Obj),Inv X (pins ++ [(S,seqObj "list" #[.int b tb,.int b tb] c),(it,oI)]) σ H s → s.heap.IsListIter it l j → xs.drop j = ns.map V.int →
      (∀ t s',Inv X pins σ H s' → R (.ok (.ret (.int (maxI b ns) t))) s') → codeAny (model X.prog X.w) X.A (.builtin "max.loop" ⟨[.ref it,.none,.ref S],[("default",dv)]⟩) R s:=by
  have hname:(toString "max" ++ toString ".loop":String) = "max.loop":=by decide
  intro ns
  induction ns with
  | nil=>
    intro j s b tb c oI I hit hx hR
    have pS:=I.pin (S,seqObj "list" #[.int b tb,.int b tb] c) (by simp)
    have pI:=I.pin (it,oI) (by simp)
    refine L2.o_EAA (I.list hl) fun its rs pl hz=>?_
    have hlen:=rs.length
    have hdl:=congrArg List.length hx
    rw [List.length_drop] at hdl
    simp only [List.map_nil,List.length_nil] at hdl
    refine codeAny_builtin PySem.F.entry_max_loop ?_
    rw [Around.under_plainId PySem.F.plain_max_loop _]
    show wpAny _ X.A.in1 (seqItems? (.ref S) >>= _) _ _ _
    refine wpAny_bind (wpAny_seqItems pS.1 rfl ?_)
    show wpAny _ X.A.in1 (tryCatch (pyNext (.ref it)) _ >>= _) _ _ _
    refine wpAny_bind (wpAny_tryCatch (wpAny_pyNext_list_end (A:=X.A.in1) hh hit pl.isList (by simp at hdl ⊢; omega) fun h' eb=>?_))
    have I1:Inv X (pins ++ [(S,seqObj "list" #[.int b tb,.int b tb] c)]) σ H { s with heap:=h' }:=I.swap (t':=s.toks) (fI H pI.2.1) (fun b o hb e=>eb b o hb e) fun p hp=>by
      obtain rfl:p = _:=List.mem_singleton.mp hp
      exact .inl ⟨by simp,hSi⟩
    have pS1:=I1.pin (S,seqObj "list" #[.int b tb,.int b tb] c) (by simp)
    have s1:=Heap.SameBut.update h' S (Obj.mapSeq fun _=>(#[]:Array Value))
    show wpAny _ X.A.in1 (updateSeq S (fun _=>#[]) >>= _) _ _ _
    refine wpAny_bind ?_
    refine wpAny_updateSeq pS1.1 rfl (wpAny_bind (wpAny_letGo (wpAny_pure ?_)))
    have I2:=I1.swap (pl':=[]) (t':=s.toks) (h':=h'.update S (Obj.mapSeq fun _=>(#[]:Array Value))) (fS H pS.2.1) (fun b o hb e=>(s1.2 b hb).trans e) fun p hp=>by cases hp
    rw [List.append_nil] at I2
    exact hR tb _ I2
  | cons n ns ih=>
    intro j s b tb c oI I hit hx hR
    have pS:=I.pin (S,seqObj "list" #[.int b tb,.int b tb] c) (by simp)
    have pI:=I.pin (it,oI) (by simp)
    refine L2.o_EAA (I.list hl) fun its rs pl hz=>?_
    rw [List.map_cons] at hx
    have hy:xs[j]? = some (.int n):=by
      have:=congrArg (fun l:List V=>l[0]?) hx
      simpa using this
    have hys:xs.drop (j + 1) = ns.map V.int:=by
      have:=congrArg List.tail hx
      simpa using this
    refine L2.o_EA (rs.get hy) fun u hu ru=>?_
    obtain ⟨t2,rfl⟩:∃ t2,u = .int n t2:=ru
    refine codeAny_builtin PySem.F.entry_max_loop ?_
    rw [Around.under_plainId PySem.F.plain_max_loop _]
    show wpAny _ X.A.in1 (seqItems? (.ref S) >>= _) _ _ _
    refine wpAny_bind (wpAny_seqItems pS.1 rfl ?_)
    show wpAny _ X.A.in1 (tryCatch (pyNext (.ref it)) _ >>= _) _ _ _
    refine wpAny_bind (wpAny_tryCatch (wpAny_pyNext_list_item hit pl.isList (x:=.int n t2) (by simpa using hu) fun h' st' sb=>?_))
    refine L2.o_EAA (id st') fun oI' e1 e2 e3=>?_
    have I2:Inv X (pins ++ [(S,seqObj "list" #[.int b tb,.int b tb] c),(it,oI')]) σ H { s with heap:=h' }:=I.swap (t':=s.toks) (fI H pI.2.1) (fun b o hb e=>(sb.2 b hb).trans e) fun p hp=>by
      rcases List.mem_cons.mp hp with rfl | hp
      · exact .inl ⟨by simp,hSi⟩
      · obtain rfl:p = _:=List.mem_singleton.mp hp
        exact .inr ⟨rfl,e1,fun v z=>by rw [e3] at z; cases z⟩
    have pS2:=I2.pin (S,seqObj "list" #[.int b tb,.int b tb] c) (by simp)
    have pI2:=I2.pin (it,oI') (by simp)
    refine wpAny_bind (wpAny_pure ?_)
    show wpAny _ X.A.in1 (tryCatch (holding [.int n t2,.int n t2] (richCompare .Gt (.int n t2) (.int b tb) >>= _)) _ >>= _) _ _ _
    refine wpAny_bind (wpAny_tryCatch (wpAny_holding (wpAny_bind (CmpOf.ints_gt (prog:=X.prog) (w:=X.w) (A:=X.A.in1) (P:=fun i v=>∃ t,v = .int (if i = 0 then n else b) t) (fun i=>if i = 0 then n else b) (fun i v h=>h) 0 1 _ _ _ _ _ ⟨t2,rfl⟩ ⟨tb,rfl⟩ ?_))))
    refine wpAny_bind (wpAny_holding (wpAny_truthy_bool ?_))
    refine wpAny_bind (wpAny_letGo (wpAny_pure ?_))
    by_cases hb':n > b
    · have s1:=Heap.SameBut.update h' S (Obj.mapSeq fun _=>#[.int n t2,.int n t2])
      obtain ⟨c2,hc2⟩:∃ c2,(h'.update S (Obj.mapSeq fun _=>#[.int n t2,.int n t2])).get? S = some (seqObj "list" #[.int n t2,.int n t2] c2):=⟨_,get?_update_seq pS2.1 fun _=>#[.int n t2,.int n t2]⟩
      simp only [hb',decide_true,if_true,if_neg (show ¬ (1 = 0) by decide)]
      refine wpAny_bind ?_
      refine wpAny_updateSeq pS2.1 rfl (wpAny_bind (wpAny_letGo ?_))
      rw [hname]
      have I3:Inv X (pins ++ [(S,seqObj "list" #[.int n t2,.int n t2] c2),(it,oI')]) σ H { s with heap:=h'.update S (Obj.mapSeq fun _=>#[.int n t2,.int n t2]) }:=I2.swap (t':=s.toks) (fS H pS2.2.1) (fun b o hb e=>(s1.2 b hb).trans e) fun p hp=>by
        rcases List.mem_cons.mp hp with rfl | hp
        · exact .inr ⟨rfl,hc2,seq_nocell⟩
        · obtain rfl:p = _:=List.mem_singleton.mp hp
          exact .inl ⟨by simp,hSi.symm⟩
      exact wpAny_pure ⟨plainId_quiet PySem.F.plain_max_loop _,ih (j + 1) _ n t2 c2 oI' I3 ⟨oI',(s1.2 it hSi.symm).trans pI2.1,e2,e3⟩ hys fun t s' J=>by
        have:=hR t s' J
        rw [maxI_cons,if_pos hb'] at this
        exact this⟩
    · simp only [hb',decide_false,Bool.false_eq_true,if_false,if_true,if_neg (show ¬ (1 = 0) by decide)]
      refine wpAny_bind (wpAny_letGo ?_)
      rw [hname]
      exact wpAny_pure ⟨plainId_quiet PySem.F.plain_max_loop _,ih (j + 1) _ b tb c oI' I2 ⟨oI',pI2.1,e2,e3⟩ hys fun t s' J=>by
        have:=hR t s' J
        rw [maxI_cons,if_neg hb'] at this
        exact this⟩
theorem call_maxDf {l:Addr} {pins:List (Addr × Obj)} {σ:St} {H:Hp} {s:Shared} {ns:List Int} {i:Int} {ti:Tok} {Q:VK} {E':Value → Shared → Prop}
    (hh:X.A.handled = none) (I:Inv X pins σ H s) (hl:SqL X.K H l (ns.map V.int)) (q:Q (.int (maxOr i ns)) H) :
    wpAny (model X.prog X.w) X.A (call (.builtin "max") [.ref l] [(Str.ofString "default",.int i ti)]) (EP X pins σ Q) E' s:=by
  have hname:(toString "max" ++ toString ".loop":String) = "max.loop":=by decide
  refine L2.o_EAA (I.list hl) fun its rs pl hz=>?_
  refine kmk_tree PySem.F.kind_max PySem.F.plain_max PySem.F.entry_max (argsMaxD _ _) ?_
  show wpAny _ X.A.in1 (Builtin.Builtins.bindParams "max" ["key","default"] 0 ⟨[],[(Str.ofString "default",.int i ti)]⟩ >>= _) _ _ s
  refine wpAny_bind (wpAny_of_eq (show Builtin.Builtins.bindParams "max" ["key","default"] 0 ⟨[],[(Str.ofString "default",.int i ti)]⟩ = pure [none,some (.int i ti)] from rfl) ?_)
  refine wpAny_bind (wpAny_pure ?_)
  refine wpAny_bind (wpAny_pyIter_list pl.isList ?_)
  refine wpAny_bind (wpAny_newList ?_ (Nat.zero_le _))
  rw [hname]
  generalize hI1:s.heap.push { cls:=.type "list_iterator",data:=.fields #[.ref l,.int 0 0] } = h1
  have z1:h1.objs.size = s.heap.objs.size + 1:=by rw [← hI1]; exact size_push' ..
  have k1:∀ b o,s.heap.get? b = some o → h1.get? b = some o:=fun b o e=>by rw [← hI1]; exact Heap.get?_push_of_some _ e
  have g1:h1.get? s.heap.objs.size = some { cls:=.type "list_iterator",data:=.fields #[.ref l,.int 0 0] }:=by rw [← hI1]; exact Heap.get?_push_size _ rfl
  have hSi:h1.objs.size ≠ s.heap.objs.size:=by omega
  have fI:∀ H',H' s.heap.objs.size = none → FpOk X pins H' s.heap.objs.size:=fun H' hn=>I.fpOk (Nat.le_refl _) hn
  have fS:∀ H',H' h1.objs.size = none → FpOk X pins H' h1.objs.size:=fun H' hn=>I.fpOk (by omega) hn
  have nI:H s.heap.objs.size = none:=I.hok.fresh (Nat.le_refl _)
  have nS:H h1.objs.size = none:=I.hok.fresh (by omega)
  have gS:(h1.push { cls:=.type "list",data:=.seq ([]:List Value).toArray }).get? h1.objs.size = some (seqObj "list" #[] 0):=Heap.get?_push_size _ rfl
  have gI:(h1.push { cls:=.type "list",data:=.seq ([]:List Value).toArray }).get? s.heap.objs.size = some { cls:=.type "list_iterator",data:=.fields #[.ref l,.int 0 0] }:=Heap.get?_push_of_some _ g1
  have I0:Inv X (pins ++ [(h1.objs.size,seqObj "list" #[] 0),(s.heap.objs.size,{ cls:=.type "list_iterator",data:=.fields #[.ref l,.int 0 0] })]) σ H { s with heap:=h1.push { cls:=.type "list",data:=.seq ([]:List Value).toArray } }:=by
    have J:Inv X pins σ H { s with heap:=h1.push { cls:=.type "list",data:=.seq ([]:List Value).toArray } }:=I.kept (t':=s.toks) fun b o e=>Heap.get?_push_of_some _ (k1 b o e)
    refine J.pins_of fun p hp=>?_
    rcases List.mem_append.mp hp with hp | hp
    · exact J.pin p (List.mem_append_right _ hp)
    · rcases List.mem_cons.mp hp with rfl | hp
      · refine L2.o_AAA (fS H nS) fun f0 f1 f2 _=>?_
        exact ⟨gS,f0,f1,f2,seq_nocell⟩
      · obtain rfl:p = _:=List.mem_singleton.mp hp
        refine L2.o_AAA (fI H nI) fun f0 f1 f2 _=>?_
        exact ⟨gI,f0,f1,f2,fun v z=>by cases z⟩
  refine wpAny_pure ⟨plainId_quiet PySem.F.plain_max_loop _,?_⟩
  refine L2.o_EAA (I0.list hl) fun its0 rs0 pl0 hz0=>?_
  have hit:(h1.push { cls:=.type "list",data:=.seq ([]:List Value).toArray }).IsListIter s.heap.objs.size l 0:=⟨_,gI,rfl,rfl⟩
  refine codeAny_builtin PySem.F.entry_max_loop ?_
  rw [Around.under_plainId PySem.F.plain_max_loop _]
  show wpAny _ X.A.in1 (seqItems? (.ref _) >>= _) _ _ _
  refine wpAny_bind (wpAny_seqItems gS rfl ?_)
  show wpAny _ X.A.in1 (tryCatch (pyNext (.ref s.heap.objs.size)) _ >>= _) _ _ _
  cases ns with
  | nil=>
    refine wpAny_bind (wpAny_tryCatch (wpAny_pyNext_list_end (A:=X.A.in1) hh hit pl0.isList (by cases rs0; rfl) fun h' eb=>?_))
    have I1:=I0.swap (pl':=[]) (t':=s.toks) (fI H nI) (fun b o hb e=>eb b o hb e) fun p hp=>by cases hp
    rw [List.append_nil] at I1
    refine wpAny_bind (wpAny_rule ?_)
    exact wpAny_pure ⟨.int i,H,I1,⟨ti,rfl⟩,q⟩
  | cons n ns=>
    refine L2.o_EA (rs0.get (show ((n :: ns).map V.int)[0]? = some (.int n) from rfl)) fun u0 hu0 ru0=>?_
    obtain ⟨t2,rfl⟩:∃ t2,u0 = .int n t2:=ru0
    refine wpAny_bind (wpAny_tryCatch (wpAny_pyNext_list_item hit pl0.isList (x:=.int n t2) (by simpa using hu0) fun h' st' sb=>?_))
    refine L2.o_EAA (id st') fun oI' e1 e2 e3=>?_
    have I1:Inv X (pins ++ [(h1.objs.size,seqObj "list" #[] 0),(s.heap.objs.size,oI')]) σ H { s with heap:=h' }:=I0.swap (t':=s.toks) (fI H nI) (fun b o hb e=>(sb.2 b hb).trans e) fun p hp=>by
      rcases List.mem_cons.mp hp with rfl | hp
      · exact .inl ⟨by simp,hSi⟩
      · obtain rfl:p = _:=List.mem_singleton.mp hp
        exact .inr ⟨rfl,e1,fun v z=>by rw [e3] at z; cases z⟩
    refine wpAny_bind (wpAny_pure ?_)
    have pS2:=I1.pin (h1.objs.size,seqObj "list" #[] 0) (by simp)
    have pI2:=I1.pin (s.heap.objs.size,oI') (by simp)
    have s1:=Heap.SameBut.update h' h1.objs.size (Obj.mapSeq fun _=>#[.int n t2,.int n t2])
    obtain ⟨c2,hc2⟩:∃ c2,(h'.update h1.objs.size (Obj.mapSeq fun _=>#[.int n t2,.int n t2])).get? h1.objs.size = some (seqObj "list" #[.int n t2,.int n t2] c2):=⟨_,get?_update_seq pS2.1 fun _=>#[.int n t2,.int n t2]⟩
    show wpAny _ X.A.in1 (updateSeq h1.objs.size (fun _=>#[.int n t2,.int n t2]) >>= _) _ _ _
    refine wpAny_bind ?_
    refine wpAny_updateSeq pS2.1 rfl ?_
    rw [hname]
    have I3:Inv X (pins ++ [(h1.objs.size,seqObj "list" #[.int n t2,.int n t2] c2),(s.heap.objs.size,oI')]) σ H { s with heap:=h'.update h1.objs.size (Obj.mapSeq fun _=>#[.int n t2,.int n t2]) }:=I1.swap (t':=s.toks) (fS H pS2.2.1) (fun b o hb e=>(s1.2 b hb).trans e) fun p hp=>by
      rcases List.mem_cons.mp hp with rfl | hp
      · exact .inr ⟨rfl,hc2,seq_nocell⟩
      · obtain rfl:p = _:=List.mem_singleton.mp hp
        exact .inl ⟨by simp,hSi.symm⟩
    exact wpAny_pure ⟨plainId_quiet PySem.F.plain_max_loop _,maxD_loop hh hSi fS fI hl ns 1 _ n t2 c2 oI' I3 ⟨oI',(s1.2 _ hSi.symm).trans pI2.1,e2,e3⟩ rfl fun t s' J=>⟨.int _,H,J,⟨t,rfl⟩,q⟩⟩
noncomputable def maxDf (i:Int):PyData → Option PyData
  | .list ds=>(intsO ds).map fun ns=>.int (maxOr i ns)
  | _=>none
theorem v_maxDf {p pos kp cpos:Pos} {cj:Nat} {i:Int} {a:Expr} {fa:Rho → Option PyData} (hh:X.A.handled = none) (hg:Gl X "max") (hm:X.mg "max" = none) (ha:PR X O a fa) (hv:bootBuiltins "max" = some (.builtin "max"):=by decide +kernel)
    (he:autoParam (starEach [a] X.env = (false,eval a X.env) :: starEach [] X.env) L2.ar._auto_1)
    (he':autoParam (backTo pos (starEach [a] X.env) = (false,eval a X.env) :: backTo pos (starEach [] X.env)) L2.ar._auto_1)
    (hpl:autoParam ((backTo pos (starEach [a] X.env)).any (·.1) = false) L2.ar._auto_1)
    (hkl:autoParam ((backToKw pos (keywordEach [⟨some "default",.Constant (.int i) cj cpos,kp⟩] X.env)).all (·.1.isSome) = true) L2.ar._auto_1)
    (hkn:autoParam ((backToKw pos (keywordEach [⟨some "default",.Constant (.int i) cj cpos,kp⟩] X.env)).any (·.1.isNone) = false) L2.ar._auto_1) :
    PV X O (.Call (.Name "max" p) [a] [⟨some "default",.Constant (.int i) cj cpos,kp⟩] pos) (fun ρ=>(fa ρ).bind (maxDf i)):=by
  intro pins s σ H Q I ⟨hid,H0,ρ,ow,r,E,hf,q⟩
  obtain ⟨d,h1,h2⟩:=bind_some hf
  refine wpAny_Call_Name_kw (ld_blt I hg hm hv ?_ (by decide) (by decide))
  refine callWith_kw ?_ he' hpl hkl hkn
  have A1:=(pa_cons ha pa_nil he) pos pins s σ H (fun vs H1=>∃ v,vs = [v] ∧ Same H H1 ∧ Den X.K (del H1 hid) v d) I ⟨hid,H0,ρ,ow,d,E,h1,fun v H1 s1 D1=>⟨v,rfl,s1,D1⟩⟩
  refine thn A1 fun us s1 zpat=>?_
  obtain ⟨vs,H1,I1,rr,v,e,sm1,D1⟩:=zpat
  subst e
  refine L2.o_EA (vals1 rr) fun u zq1 ru=>?_
  subst zq1
  refine kws_cons (thn ((pe_int (i:=i) (j:=cj) (pos:=cpos)) pins s1 σ H1 (fun v H2=>v = .int i ∧ H2 = H1) I1 ⟨rfl,rfl⟩) fun uz s2 ⟨vz,H2,I2,rz,e,eH⟩=>kws_nil ?_)
  subst e
  subst eH
  obtain ⟨ti,rfl⟩:∃ ti,uz = .int i ti:=rz
  cases d with
  | list ds=>
    obtain ⟨ns,h3,rfl⟩:=map_some h2
    have e:=intsO_some h3
    subst e
    obtain ⟨l,xs,rfl,q1,r1⟩:=den_lst D1
    obtain rfl:u = Value.ref l:=ru
    have e2:=r1.isInts
    subst e2
    exact call_maxDf hh I2 ((del_same _ _).seq q1) (q _ _ sm1 (.int _))
  | _=>exact L2.no_ns h2
end
end L2
namespace L2
open PySem PySem.Spec PyProof.Rows
section
variable {P:Program} {w:World} {A:Around} {E:Value → Shared → Prop} {h:Heap} {g:Array GenState} {d:Drawn} {t:Nat} {os:OsState}
variable {C N:Addr} {nm q:Str} {bs bm bmB:List Value} {hdct:Bool} {sn:List Str} {sub:List Value} {ab:Bool} {col:Option Bool} {dd:Option Addr} {k0 k1 k2 k3 k5:Option Value} {B Bn newId nid initId inN:String} {bmN:List Value}
end
section
variable {P:Program} {w:World} {A:Around} {E:Value → Shared → Prop} {s:Shared}
variable {nm q:Str} {C N e:Addr} {bs bm bmB:List Value} {hdct:Bool} {sn:List Str} {sub:List Value} {ab:Bool} {col:Option Bool} {dd:Option Addr} {k0 k1 k2 k3 k5:Option Value} {B newId nid initId:String}
end
end L2
namespace L2
open PySem PySem.Spec PyProof.Rows
section
variable {P:Program} {w:World} {A:Around} {E:Value → Shared → Prop} {s:Shared} {K:PySem.W.Frag} {e C:Addr} {oe:Obj} {vs:Array Value} {name:Str} {v:Value}
end
end L2
namespace L2
open PySem PySem.Spec PyProof.Rows
section
variable {X:Cx} {a b c:Expr} {pos:Pos} {ta tb tc:TE}
end
end L2
namespace L2
open PySem PySem.Spec PyProof.Rows
variable [Reg]
section
variable {X:Cx} {O:Ow} {a b c:Expr} {es:List Expr} {pos apos cpos:Pos} {fa fb fc:Rho → Option PyData}
end
end L2
namespace L2
open PySem PySem.Spec PyProof.Rows
variable [Reg]
section
variable {X:Cx} {O:Ow} {a b c:Expr} {es:List Expr} {pos apos cpos p2:Pos} {fa fb fc:Rho → Option PyData}
theorem bools_of {bs:List Bool}:∀ {its:List Value},Vals (bs.map V.bl) its → its = bs.map Value.bool:=by
  induction bs with
  | nil=>intro its h; cases h; rfl
  | cons x r ih=>
    intro its h
    cases h with
    | cons h1 h2=>
      rw [ih h2]
      cases h1
      rfl
theorem call_all (hc:X.calm = true):CallR X (.builtin "all") (fun xs H Q=>∃ (p:Addr) (bs:List Bool),xs = [.ref p] ∧ SqL X.K H p (bs.map V.bl) ∧ Q (.bl (bs.all id)) H):=by
  intro pins s σ H xs us Q I r h
  obtain ⟨p,bs,rfl,hq,k⟩:=h
  obtain ⟨u,rfl,rx⟩:=vals1 r
  obtain rfl:u = Value.ref p:=rx
  obtain ⟨its,r',pl,hz⟩:=I.list hq
  obtain rfl:=bools_of r'
  have hl:=pl.isList
  have hlt:p < s.heap.objs.size:=Heap.lt_size hl.choose_spec.1
  refine call_all_walk (wpAny_pyIter_list hl ?_)
  refine ⟨_,_,_,_,_,_,fun i=>bs.getD i true,rfl,Walks.list (A:=X.A.in1) (I.ok.hd hc) _ p (Nat.ne_of_lt hlt) (bs.map Value.bool).toArray,⟨⟨_,Heap.get?_push_size _ rfl,rfl,rfl⟩,hl.push _⟩,fun i v s' Q' E' hv hQ=>?_,fun h' tk hk=>?_⟩
  · have hv':(bs.map Value.bool)[i]? = some v:=by simpa using hv
    rw [List.getElem?_map] at hv'
    obtain ⟨b,hb,rfl⟩:=Option.map_eq_some_iff.mp hv'
    refine wpAny_truthy_bool ?_
    have:bs.getD i true = b:=by rw [List.getD_eq_getElem?_getD,hb]; rfl
    exact this ▸ (show Q' (bs.getD i true) s' from hQ)
  · have hall:(List.range (bs.map Value.bool).toArray.size).all (fun i=>bs.getD i true) = bs.all id:=by
      rw [List.size_toArray,List.length_map,Bool.eq_iff_iff,List.all_eq_true,List.all_eq_true]
      constructor
      · intro h x hx
        obtain ⟨i,hi,rfl⟩:=List.getElem_of_mem hx
        have:=h i (List.mem_range.mpr hi)
        rwa [List.getD_eq_getElem?_getD,List.getElem?_eq_getElem hi] at this
      · intro h i hi
        have hi:=List.mem_range.mp hi
        rw [List.getD_eq_getElem?_getD,List.getElem?_eq_getElem hi]
        exact h _ (List.getElem_mem hi)
    rw [hall]
    exact ⟨.bl _,H,I.kept (t':=tk) (old_kept hk),rfl,k⟩
noncomputable def boolO:PyData → Option Bool
  | .bool b=>some b
  | _=>none
noncomputable def boolsO:List PyData → Option (List Bool)
  | []=>some []
  | d :: r=>(boolO d).bind fun x=>(boolsO r).map fun xs=>x :: xs
theorem boolO_some {d:PyData} {x:Bool} (h:boolO d = some x):d = .bool x:=by
  cases d with
  | bool y=>cases h; rfl
  | _=>cases h
theorem boolsO_den {K:PySem.W.Frag} {H:Hp}:∀ {ds:List PyData} {ss:List Bool} {vs:List V},boolsO ds = some ss → DenL K H vs ds → vs = ss.map V.bl:=by
  intro ds
  induction ds with
  | nil=>intro ss vs h D; cases h; cases D; rfl
  | cons d r ih=>
    intro ss vs h D
    obtain ⟨x,h1,h2⟩:=bind_some h
    obtain ⟨xs,h3,rfl⟩:=map_some h2
    cases D with
    | cons D1 D2=>
      rw [boolO_some h1] at D1
      rw [den_bl D1,ih h3 D2]
      rfl
noncomputable def allD (d:PyData):Option PyData:=((listD d).bind boolsO).map fun bs=>.bool (bs.all id)
theorem v_all {p:Pos} (hc:X.calm = true) (hg:Gl X "all") (hm:X.mg "all" = none) (ha:PR X O a fa) (he:autoParam (starEach [a] X.env = (false,eval a X.env) :: starEach [] X.env) L2.ar._auto_1) (hpl:autoParam ((backTo pos (starEach [] X.env)).any (·.1) = false) L2.ar._auto_1)
    (hv:bootBuiltins "all" = some (.builtin "all"):=by decide +kernel):PV X O (.Call (.Name "all" p) [a] [] pos) (fun ρ=>(fa ρ).bind allD):=
  (pe_callB (call_all hc) hg hm hv (pa_cons ha pa_nil he) (by decide) (by decide) he hpl).imp fun σ H Q zpat=>by
    obtain ⟨hid,H0,ρ,ow,r,E,hf,k⟩:=zpat
    obtain ⟨d,h1,h2⟩:=bind_some hf
    obtain ⟨bs,h3,rfl⟩:=map_some h2
    obtain ⟨ds,h4,h5⟩:=bind_some h3
    rw [listD_some h4] at h1
    refine ⟨hid,H0,ρ,ow,_,E,h1,fun x H1 s1 D1=>?_⟩
    obtain ⟨q,vs,rfl,q1,r1⟩:=den_lst D1
    rw [boolsO_den h5 r1] at q1
    exact ⟨q,bs,rfl,(del_same _ _).seq q1,k _ H1 s1 (.bl _)⟩
end
end L2
namespace L2
open PySem PySem.Spec PyProof.Rows
section
variable [Reg] {X:Cx} {O:Ow} {tg e:Expr} {f:Rho → Option PyData}
end
section
variable {X:Cx} {O:Ow} {a b:Expr} {pos:Pos} {fa fb:Rho → Option PyData}
end
inductive TxtAt (K:PySem.W.Frag) (x v:Str):Prop
  | mk (t:Tok) (e:PySem.W.nsIn K mainGlobals x = some (some (.str v t))):TxtAt K x v
theorem TxtAt.of {K:PySem.W.Frag} {x v:Str} {t:Tok} (e:PySem.W.nsIn K mainGlobals x = some (some (.str v t))):TxtAt K x v:=⟨t,e⟩
end L2
namespace L2
open PySem PySem.Spec PyProof.Rows
end L2
namespace NW
open PySem PySem.Spec PyProof.Rows L2
noncomputable def top (i:Nat):Stmt:=PySem.Challenge.pw_nearposts_k52_whole_watches_told_otherwi.main.body.getD i (.Pass ⟨0,0,0,0⟩)
noncomputable abbrev s_l_digits:Stmt:=top 10
noncomputable abbrev s_l_place:Stmt:=top 11
noncomputable abbrev s_p_check_many:Stmt:=top 4
noncomputable abbrev s_w_init:Stmt:=(clsBody (top 8)).getD 0 (.Pass ⟨0,0,0,0⟩)
noncomputable abbrev s_p_side_between:Stmt:=top 6
noncomputable abbrev s_w_way_between:Stmt:=(clsBody (top 8)).getD 1 (.Pass ⟨0,0,0,0⟩)
noncomputable abbrev s_w_is_far:Stmt:=(clsBody (top 8)).getD 2 (.Pass ⟨0,0,0,0⟩)
noncomputable abbrev s_w_least_way:Stmt:=(clsBody (top 8)).getD 3 (.Pass ⟨0,0,0,0⟩)
noncomputable abbrev s_w_raise_mark:Stmt:=(clsBody (top 8)).getD 4 (.Pass ⟨0,0,0,0⟩)
noncomputable abbrev s_w_come:Stmt:=(clsBody (top 8)).getD 5 (.Pass ⟨0,0,0,0⟩)
noncomputable abbrev s_w_posts:Stmt:=(clsBody (top 8)).getD 7 (.Pass ⟨0,0,0,0⟩)
noncomputable abbrev s_w_bar:Stmt:=(clsBody (top 8)).getD 9 (.Pass ⟨0,0,0,0⟩)
noncomputable abbrev s_w_mark:Stmt:=(clsBody (top 8)).getD 8 (.Pass ⟨0,0,0,0⟩)
noncomputable abbrev s_w_way_to_post:Stmt:=(clsBody (top 8)).getD 10 (.Pass ⟨0,0,0,0⟩)
noncomputable abbrev s_w_reach:Stmt:=(clsBody (top 8)).getD 11 (.Pass ⟨0,0,0,0⟩)
noncomputable abbrev s_l_told:Stmt:=top 12
noncomputable abbrev s_w_folk:Stmt:=(clsBody (top 8)).getD 6 (.Pass ⟨0,0,0,0⟩)
noncomputable abbrev s_l_places:Stmt:=top 13
noncomputable abbrev s_law:Stmt:=top 14
noncomputable def lamTab:List (Str × Lam):=[]
noncomputable instance:Reg:=⟨fun t=>lamTab.lookup t⟩
noncomputable def E_l_digits_0:Rho → Option PyData:=fun ρ=>bind2 ((ρ[1]?).join) ((ρ[0]?).join) ixD
noncomputable def L_l_digits_1:Rho → Option Out:=seqF (fun ρ=>setO 5 ρ (bind2 (bind2 (bind2 (bind2 ((ρ[5]?).join) ((ρ[5]?).join) mulD) ((ρ[3]?).join) addD) (bind2 (some (.int 7919)) ((ρ[7]?).join) mulD) addD) (some (.int 2147483629)) modD)) (seqF (fun ρ=>condO (testD (bind2 ((ρ[6]?).join) (some (.int 0)) gtD)) ((bind2 ((ρ[6]?).join) (some (.int 1000003)) modD).bind (appD 4 ρ)) ((bind2 (bind2 (bind2 ((ρ[5]?).join) ((ρ[5]?).join) mulD) (some (.int 2147483587)) modD) (some (.int 1000003)) modD).bind (appD 4 ρ))) (fun ρ=>setO 6 ρ (bind2 ((ρ[6]?).join) (some (.int 1000003)) fdivD)))
noncomputable def B_l_digits:Rho → Option Out:=seqF (fun ρ=>setO 3 ρ (((compO (setS 0) (fun _=>some true) E_l_digits_0 ((consD ((ρ[1]?).join) (consD ((consD ((consD ((ρ[0]?).join) (some [])).bind lenD) (consD (some (.int 63)) (some []))).bind minD) (consD ((ρ[2]?).join) (some [])))).bind rng3D) (frees 1 [0] ρ)).map .list).bind sumD)) (seqF (fun ρ=>setLO 4 ρ (shortL (some []))) (seqF (fun ρ=>setO 5 ρ (bind2 (bind2 (bind2 ((ρ[3]?).join) (some (.int 48271)) mulD) (some (.int 40503)) addD) (some (.int 2147483629)) modD)) (seqF (fun ρ=>setO 6 ρ (bind2 ((ρ[3]?).join) ((consD (bind2 ((ρ[3]?).join) (bind2 (some (.int 10)) (some (.int 18)) powD) geD) (some [])).bind intD) mulD)) (seqF (fun ρ=>forO (setS 7) L_l_digits_1 ((consD (some (.int 120)) (some [])).bind rng1D) ρ) (fun ρ=>(((((ρ[4]?).join).bind revD).filter lf.go).map .list).map .rt)))))
noncomputable def F_l_digits:List PyData → Option PyData:=runD 3 5 B_l_digits
noncomputable def B_l_place:Rho → Option Out:=seqI (fun ρ=>setEff 1 ((popD 0) ρ)) (seqI (fun ρ=>setEff 2 ((popD 0) ρ)) (fun ρ=>condO (testD (bind2 (bind2 ((ρ[1]?).join) (some (.int 16)) modD) (some (.int 1)) eqD)) ((retI 0 (fun ρ=>shortD .tuple (consD (bind2 (bind2 ((ρ[2]?).join) (bind2 (some (.int 10)) (some (.int 25)) powD) mulD) (bind2 (some (.int 5)) (bind2 (some (.int 10)) (some (.int 30)) powD) mulD) subD) (consD (bind2 (bind2 ((ρ[1]?).join) (bind2 (some (.int 10)) (some (.int 25)) powD) mulD) (bind2 (some (.int 5)) (bind2 (some (.int 10)) (some (.int 30)) powD) mulD) subD) (some []))))) ρ) ((seqI (fun ρ=>setO 3 ρ (veilF [0] (fun ρ=>bind2 ((shortL (consD (some (.int 3)) (consD (some (.int 10)) (consD (some (.int 100)) (consD (some (.int 1000)) (some [])))))).map .list) (bind2 (bind2 ((ρ[1]?).join) (some (.int 16)) fdivD) (some (.int 4)) modD) ixD) ρ)) (retI 0 (fun ρ=>shortD .tuple (consD (bind2 (bind2 (bind2 ((ρ[1]?).join) (some (.int 64)) fdivD) ((ρ[3]?).join) modD) (bind2 ((ρ[3]?).join) (some (.int 2)) fdivD) subD) (consD (bind2 (bind2 ((ρ[2]?).join) ((ρ[3]?).join) modD) (bind2 ((ρ[3]?).join) (some (.int 2)) fdivD) subD) (some [])))))) ρ)))
noncomputable def FI_l_place:List PyData → Option (PyData × List PyData):=runI 1 3 B_l_place
noncomputable def B_p_check_many:Rho → Option Out:=fun ρ=>condO (testD (bind2 ((ρ[0]?).join) (some (.int 1)) ltD)) (none) (some (.nx ρ))
noncomputable def F_p_check_many:List PyData → Option PyData:=runD 1 0 B_p_check_many
noncomputable def B_w_init:Rho → Option Out:=seqI (fun ρ=>dropO ρ ((consD ((ρ[1]?).join) (some [])).bind F_p_check_many)) (newF "Watch" ["many"] (fun ρ=>(ρ[1]?).join) (newF "Watch" ["many","places"] (fun ρ=>(shortL (some [])).map .list) (newF "Watch" ["many","places","chosen"] (fun ρ=>(shortL (some [])).map .list) (newF "Watch" ["many","places","chosen","last_mark"] (fun ρ=>some (.int 0)) (newF "Watch" ["many","places","chosen","last_mark","last_bar"] (fun ρ=>some .none) (selfO .none))))))
noncomputable def FR_w_init:List PyData → Option (PyData × PyData):=runRc 2 0 B_w_init
noncomputable def B_p_side_between:Rho → Option Out:=fun ρ=>((consD ((consD (bind2 (bind2 ((ρ[0]?).join) (some (.int 0)) ixD) (bind2 ((ρ[1]?).join) (some (.int 0)) ixD) subD) (some [])).bind absD) (consD ((consD (bind2 (bind2 ((ρ[0]?).join) (some (.int 1)) ixD) (bind2 ((ρ[1]?).join) (some (.int 1)) ixD) subD) (some [])).bind absD) (some []))).bind maxD).map .rt
noncomputable def F_p_side_between:List PyData → Option PyData:=runD 2 0 B_p_side_between
noncomputable def B_w_way_between:Rho → Option Out:=fun ρ=>((consD (bind2 (((ρ[0]?).join).bind (fldD "Watch" "places")) ((ρ[1]?).join) ixD) (consD (bind2 (((ρ[0]?).join).bind (fldD "Watch" "places")) ((ρ[2]?).join) ixD) (some []))).bind F_p_side_between).map .rt
noncomputable def F_w_way_between:List PyData → Option PyData:=runD 3 0 B_w_way_between
noncomputable def E_w_is_far_0:Rho → Option PyData:=fun ρ=>bind2 (callM "Watch" "way_between" F_w_way_between (fun ρ=>(ρ[1]?).join) (fun ρ=>consD ((ρ[2]?).join) (consD ((ρ[0]?).join) (some []))) ρ) (bind2 (some (.int 2)) (((ρ[1]?).join).bind (fldD "Watch" "last_mark")) mulD) gtD
noncomputable def B_w_is_far:Rho → Option Out:=fun ρ=>(((compO (setS 0) (fun _=>some true) E_w_is_far_0 (((ρ[2]?).join).bind listD) (frees 1 [0,1] ρ)).map .list).bind allD).map .rt
noncomputable def F_w_is_far:List PyData → Option PyData:=runD 3 0 B_w_is_far
noncomputable def E_w_least_way_0:Rho → Option PyData:=fun ρ=>callM "Watch" "way_between" F_w_way_between (fun ρ=>(ρ[1]?).join) (fun ρ=>consD ((ρ[2]?).join) (consD ((ρ[0]?).join) (some []))) ρ
noncomputable def L_w_least_way_1:Rho → Option Out:=fun ρ=>((compO (setS 0) (fun _=>some true) E_w_least_way_0 (((cutD (((ρ[0]?).join).bind (fldD "Watch" "chosen")) (some none) ((((ρ[2]?).join).bind intO).map some)).map .list).bind listD) (frees 1 [0,3] ρ)).filter lf.go).bind (extD 1 ρ)
noncomputable def B_w_least_way:Rho → Option Out:=seqF (fun ρ=>setLO 1 ρ (shortL (some []))) (seqF (fun ρ=>forO (tupS 2 (consS (setS 2) (consS (setS 3) (nilS)))) L_w_least_way_1 (((((ρ[0]?).join).bind (fldD "Watch" "chosen")).bind listD).map enumL) ρ) (fun ρ=>(((ρ[1]?).join).bind minLD).map .rt))
noncomputable def F_w_least_way:List PyData → Option PyData:=runD 1 3 B_w_least_way
noncomputable def L_w_raise_mark_0:Rho → Option Out:=fun ρ=>condO (testD (callM "Watch" "is_far" F_w_is_far (fun ρ=>(ρ[0]?).join) (fun ρ=>consD ((ρ[2]?).join) (consD ((ρ[1]?).join) (some []))) ρ)) (((ρ[2]?).join).bind (appD 1 ρ)) (some (.nx ρ))
noncomputable def B_w_raise_mark:Rho → Option Out:=looseF 2 (seqI (setFd 0 4 "Watch" ["many","places","chosen","last_mark","last_bar"] (fun ρ=>fldK 0 2 ρ)) (seqI (setFd 0 3 "Watch" ["many","places","chosen","last_mark","last_bar"] (fun ρ=>(callM "Watch" "least_way" F_w_least_way (fun ρ=>(ρ[0]?).join) (fun _=>some []) ρ).filter lf)) (seqI (fun ρ=>setLO 1 ρ (shortL (some []))) (seqI (fun ρ=>forO (setS 2) L_w_raise_mark_0 ((fldK 0 4 ρ).bind listD) ρ) (moveR 2 1 "Watch" ["many","places","chosen","last_mark","last_bar"])))))
noncomputable def FR_w_raise_mark:List PyData → Option (PyData × PyData):=runRc 1 2 B_w_raise_mark
noncomputable def W_w_come_0:Rho → Option Bool:=fun ρ=>testD (bind2 ((consD (((ρ[0]?).join).bind (fldD "Watch" "chosen")) (some [])).bind lenD) (((ρ[0]?).join).bind (fldD "Watch" "many")) gtD)
noncomputable def L_w_come_1:Rho → Option Out:=methR 0 FR_w_raise_mark (fun _=>some [])
noncomputable def B_w_come:Rho → Option Out:=seqI (fun ρ=>setO 3 ρ ((consD (((ρ[0]?).join).bind (fldD "Watch" "places")) (some [])).bind lenD)) (seqI (appFd 0 1 "Watch" ["many","places","chosen","last_mark","last_bar"] (fun ρ=>shortD .tuple (consD ((ρ[1]?).join) (consD ((ρ[2]?).join) (some []))))) (seqI (fun ρ=>condO (testD (callM "Watch" "is_far" F_w_is_far (fun ρ=>(ρ[0]?).join) (fun ρ=>consD ((ρ[3]?).join) (consD (((ρ[0]?).join).bind (fldD "Watch" "chosen")) (some []))) ρ)) ((appFd 0 2 "Watch" ["many","places","chosen","last_mark","last_bar"] (fun ρ=>(ρ[3]?).join)) ρ) (some (.nx ρ))) (seqI (fun ρ=>whileD W_w_come_0 L_w_come_1 ((fun ρ=>64) ρ) ρ) (retR (fun ρ=>(ρ[3]?).join)))))
noncomputable def FR_w_come:List PyData → Option (PyData × PyData):=runRc 3 1 B_w_come
noncomputable def B_w_posts:Rho → Option Out:=fun ρ=>((((((ρ[0]?).join).bind (fldD "Watch" "chosen")).bind seqD).filter (·.all scD)).map .list).map .rt
noncomputable def F_w_posts:List PyData → Option PyData:=runD 1 0 B_w_posts
noncomputable def B_w_bar:Rho → Option Out:=fun ρ=>(condO (testD (bind2 (((ρ[0]?).join).bind (fldD "Watch" "last_bar")) (some .none) isNoneD)) ((some .none).filter scD) ((((((ρ[0]?).join).bind (fldD "Watch" "last_bar")).bind seqD).filter (·.all scD)).map .list)).map .rt
noncomputable def F_w_bar:List PyData → Option PyData:=runD 1 0 B_w_bar
noncomputable def B_w_mark:Rho → Option Out:=fun ρ=>(((ρ[0]?).join).bind (fldD "Watch" "last_mark")).map .rt
noncomputable def F_w_mark:List PyData → Option PyData:=runD 1 0 B_w_mark
noncomputable def E_w_way_to_post_0:Rho → Option PyData:=fun ρ=>callM "Watch" "way_between" F_w_way_between (fun ρ=>(ρ[1]?).join) (fun ρ=>consD ((ρ[2]?).join) (consD ((ρ[0]?).join) (some []))) ρ
noncomputable def B_w_way_to_post:Rho → Option Out:=fun ρ=>(((compO (setS 0) (fun _=>some true) E_w_way_to_post_0 ((((ρ[0]?).join).bind (fldD "Watch" "chosen")).bind listD) (frees 1 [0,1] ρ)).map .list).bind minLD).map .rt
noncomputable def F_w_way_to_post:List PyData → Option PyData:=runD 2 0 B_w_way_to_post
noncomputable def E_w_reach_0:Rho → Option PyData:=fun ρ=>callM "Watch" "way_to_post" F_w_way_to_post (fun ρ=>(ρ[1]?).join) (fun ρ=>consD ((ρ[0]?).join) (some [])) ρ
noncomputable def B_w_reach:Rho → Option Out:=fun ρ=>(((compO (setS 0) (fun _=>some true) E_w_reach_0 ((consD ((consD (((ρ[0]?).join).bind (fldD "Watch" "places")) (some [])).bind lenD) (some [])).bind rng1D) (frees 1 [0] ρ)).map .list).bind (maxDf 0)).map .rt
noncomputable def F_w_reach:List PyData → Option PyData:=runD 1 0 B_w_reach
noncomputable def B_l_told:Rho → Option Out:=fun ρ=>((shortL (consD (callM "Watch" "posts" F_w_posts (fun ρ=>(ρ[0]?).join) (fun _=>some []) ρ) (consD (callM "Watch" "bar" F_w_bar (fun ρ=>(ρ[0]?).join) (fun _=>some []) ρ) (consD ((bind2 (callM "Watch" "mark" F_w_mark (fun ρ=>(ρ[0]?).join) (fun _=>some []) ρ) ((ρ[1]?).join) mulD).filter scD) (consD ((bind2 (callM "Watch" "reach" F_w_reach (fun ρ=>(ρ[0]?).join) (fun _=>some []) ρ) ((ρ[1]?).join) mulD).filter scD) (some [])))))).map .list).map .rt
noncomputable def F_l_told:List PyData → Option PyData:=runD 2 0 B_l_told
noncomputable def B_w_folk:Rho → Option Out:=fun ρ=>(((((ρ[0]?).join).bind (fldD "Watch" "places")).bind seqD).map .list).map .rt
noncomputable def F_w_folk:List PyData → Option PyData:=runD 1 0 B_w_folk
noncomputable def E_l_places_0:Rho → Option PyData:=fun ρ=>bind2 ((ρ[1]?).join) ((ρ[0]?).join) ixD
noncomputable def B_l_places:Rho → Option Out:=seqF (fun ρ=>setO 1 ρ (callM "Watch" "folk" F_w_folk (fun ρ=>(ρ[0]?).join) (fun _=>some []) ρ)) (fun ρ=>((shortL (consD ((compO (setS 0) (fun _=>some true) E_l_places_0 ((callM "Watch" "posts" F_w_posts (fun ρ=>(ρ[0]?).join) (fun _=>some []) ρ).bind listD) (frees 1 [1] ρ)).map .list) (consD (callM "Watch" "mark" F_w_mark (fun ρ=>(ρ[0]?).join) (fun _=>some []) ρ) (consD (callM "Watch" "reach" F_w_reach (fun ρ=>(ρ[0]?).join) (fun _=>some []) ρ) (some []))))).map .list).map .rt)
noncomputable def F_l_places:List PyData → Option PyData:=runD 1 1 B_l_places
noncomputable def E_law_0:Rho → Option PyData:=fun ρ=>newW "Watch" FR_w_init (consD ((ρ[1]?).join) (some []))
noncomputable def L_law_1:Rho → Option Out:=seqF (fun ρ=>asgX (tupS 2 (consS (setS 9) (consS (setS 10) (nilS)))) ((callI0 1 FI_l_place) ρ)) (seqF (methIx 3 (fun ρ=>some (.int 0)) FR_w_come (fun ρ=>consD ((ρ[9]?).join) (consD ((ρ[10]?).join) (some [])))) (seqF (methIx 3 (fun ρ=>some (.int 1)) FR_w_come (fun ρ=>consD (bind2 ((ρ[9]?).join) ((ρ[4]?).join) addD) (consD (bind2 ((ρ[10]?).join) ((ρ[5]?).join) addD) (some [])))) (seqF (methIx 3 (fun ρ=>some (.int 2)) FR_w_come (fun ρ=>consD (bind2 (bind2 ((ρ[7]?).join) (some (.int 0)) ixD) ((ρ[10]?).join) mulD) (consD (bind2 (bind2 ((ρ[7]?).join) (some (.int 1)) ixD) ((ρ[9]?).join) mulD) (some [])))) (seqF (methIx 3 (fun ρ=>some (.int 3)) FR_w_come (fun ρ=>consD (bind2 ((ρ[6]?).join) ((ρ[9]?).join) mulD) (consD (bind2 ((ρ[6]?).join) ((ρ[10]?).join) mulD) (some [])))) (seqF (methIx 3 (fun ρ=>some (.int 4)) FR_w_come (fun ρ=>consD ((ρ[9]?).join) (consD ((ρ[10]?).join) (some [])))) (seqF (methIx 3 (fun ρ=>some (.int 4)) FR_w_come (fun ρ=>consD ((ρ[9]?).join) (consD ((ρ[10]?).join) (some [])))) (seqF (fun ρ=>setO 11 ρ ((consD (bind2 ((ρ[3]?).join) (some (.int 0)) ixD) (consD (some (.int 1)) (some []))).bind F_l_told)) (seqF (fun ρ=>condO (orB (testD (bind2 ((consD (bind2 ((ρ[3]?).join) (some (.int 1)) ixD) (consD (some (.int 1)) (some []))).bind F_l_told) ((ρ[11]?).join) neD)) (testD (bind2 ((consD (bind2 ((ρ[3]?).join) (some (.int 2)) ixD) (consD (some (.int 1)) (some []))).bind F_l_told) ((ρ[11]?).join) neD))) ((some (.bool false)).map .rt) (some (.nx ρ))) (seqF (fun ρ=>condO (testD (bind2 ((consD (bind2 ((ρ[3]?).join) (some (.int 3)) ixD) (consD (some (.int 1)) (some []))).bind F_l_told) ((consD (bind2 ((ρ[3]?).join) (some (.int 0)) ixD) (consD ((ρ[6]?).join) (some []))).bind F_l_told) neD)) ((some (.bool false)).map .rt) (some (.nx ρ))) (fun ρ=>condO (testD (bind2 ((consD (bind2 ((ρ[3]?).join) (some (.int 4)) ixD) (some [])).bind F_l_places) ((consD (bind2 ((ρ[3]?).join) (some (.int 0)) ixD) (some [])).bind F_l_places) neD)) ((some (.bool false)).map .rt) (some (.nx ρ))))))))))))
noncomputable def B_law:Rho → Option Out:=seqF (fun ρ=>setO 1 ρ ((consD ((ρ[0]?).join) (consD (some (.int 0)) (consD (some (.int 2)) (some [])))).bind F_l_digits)) (seqF (fun ρ=>setEff 2 ((opR addD (fun ρ=>some (.int 1)) (opL modD (popD 1) (fun ρ=>some (.int 5)))) ρ)) (seqF (fun ρ=>setO 3 ρ (veilF [1,3] (fun ρ=>(compO (setS 0) (fun _=>some true) E_law_0 ((consD (some (.int 5)) (some [])).bind rng1D) (frees 1 [2] ρ)).map .list) ρ)) (seqF (fun ρ=>asgO (tupS 2 (consS (setS 4) (consS (setS 5) (nilS)))) ρ (callN FI_l_place (((consD ((ρ[0]?).join) (consD (some (.int 1)) (consD (some (.int 2)) (some [])))).bind F_l_digits).bind listD) (some []))) (seqF (fun ρ=>setEff 6 ((opR addD (fun ρ=>some (.int 2)) (opL modD (popD 1) (fun ρ=>some (.int 99)))) ρ)) (seqF (fun ρ=>setEff 7 ((lstX (consX (opR ixD (fun ρ=>(shortL (consD (some (.int 1)) (consD ((some (.int 1)).bind negD) (some [])))).map .list) (opL modD (popD 1) (fun ρ=>some (.int 2)))) (consX (opR ixD (fun ρ=>(shortL (consD (some (.int 1)) (consD ((some (.int 1)).bind negD) (some [])))).map .list) (opL modD (popD 1) (fun ρ=>some (.int 2)))) (fun ρ=>some ([],ρ))))) ρ)) (seqF (fun ρ=>forEff (setS 8) L_law_1 ((opL modD (popD 1) (fun ρ=>some (.int 31))) ρ)) (fun ρ=>(some (.bool true)).map .rt)))))))
noncomputable def F_law:List PyData → Option PyData:=runD 1 11 B_law
end NW
namespace NW
open PySem PySem.Spec PyProof.Rows L2
theorem eqv_ints2:∀ xs ys:List Int,PyData.eqvAll (xs.map PyData.int) (ys.map PyData.int) = decide (xs = ys)
  | [],[]=>rfl
  | [],y :: r=>by simp [PyData.eqvAll]
  | x :: r,[]=>by simp [PyData.eqvAll]
  | x :: r,y :: s=>by
    rw [List.map_cons,List.map_cons,PyData.eqvAll,eqv_ints2 r s]
    simp [PyData.eqv]
    by_cases h:x = y <;> by_cases h2:r = s <;> simp [h,h2]
theorem lay_ints:∀ xs:List Int,PyData.canLayAll0 (xs.map PyData.int) = true ∧ PyData.depthAll (xs.map PyData.int) ≤ 1
  | []=>⟨rfl,by simp [PyData.depthAll]⟩
  | x :: r=>by
    obtain ⟨h1,h2⟩:=lay_ints r
    refine ⟨by rw [List.map_cons,PyData.canLayAll0,h1]; rfl,?_⟩
    rw [List.map_cons,PyData.depthAll]
    simp only [PyData.depth]
    omega
theorem lf_zs:∀ zs:List Int,lf.go (zs.map PyData.int) = true
  | []=>rfl
  | z :: r=>by rw [List.map_cons,lf.go,lf_zs r]; rfl
theorem mulD_s2 {a b:Int} (hb:b.natAbs < 2 ^ 63):mulD (.int a) (.int b) = some (.int (a * b)):=by
  have:isS b = true:=decide_eq_true hb
  simp [mulD,int2C,intO,this]
theorem mulD_s1 {a b:Int} (ha:a.natAbs < 2 ^ 63):mulD (.int a) (.int b) = some (.int (a * b)):=by
  have:isS a = true:=decide_eq_true ha
  simp [mulD,int2C,intO,this]
theorem rng3_ok {i j:Int} (h1:i.natAbs < 2 ^ 60) (h2:j.natAbs < 2 ^ 60):rng3D [.int i,.int j,.int 2] = some (rngL2 i ((j - i + 1) / 2).toNat):=by
  refine (show (if (decide (i.natAbs < 2 ^ 60) && (decide (j.natAbs < 2 ^ 60) && decide ((2:Int) = 2))) = true then some (rngL2 i ((j - i + 1) / 2).toNat) else none) = _ from if_pos ?_)
  rw [decide_eq_true h1,decide_eq_true h2]
  rfl
theorem seqF_nx {F G:Rho → Option Out} {ρ ρ':Rho} (h:F ρ = some (.nx ρ')):seqF F G ρ = G ρ':=by
  unfold seqF
  rw [h]
  rfl
theorem forD_tr {S:PyData → Rho → Option Rho} {F:Rho → Option Out} {α:Type} (P:Nat → α → Prop) (l:Nat → α → (Nat → Option PyData) → Rho) (ds:List PyData) (x0:α) (t0:Nat → Option PyData) (h0:P 0 x0)
    (step:∀ i d x t,ds[i]? = some d → P i x → ∃ x' t',P (i + 1) x' ∧ (S d (l i x t)).bind F = some (.nx (l (i + 1) x' t'))) :
    ∃ x t,P ds.length x ∧ forD S F ds (l 0 x0 t0) = some (.nx (l ds.length x t)):=by
  obtain ⟨ρ',e,x,t,h1,h2⟩:=forD_inv (S:=S) (F:=F) (fun k ρ=>∃ x t,P k x ∧ ρ = l k x t) ds 0 _ ⟨x0,t0,h0,rfl⟩ (by
    rintro i d ρ hd ⟨x,t,h1,rfl⟩
    rw [Nat.zero_add] at h1 ⊢
    obtain ⟨x',t',h2,h3⟩:=step i d x t hd h1
    obtain ⟨ρ1,h4,h5⟩:=bind_some h3
    exact ⟨ρ1,_,h4,h5,x',t',h2,rfl⟩)
  rw [Nat.zero_add] at h1 h2
  exact ⟨x,t,h1,by rw [e,h2]⟩
theorem rl_len (n:Nat):(rngL 0 n).length = n:=by unfold rngL; rw [List.length_map,List.length_range]
theorem forD_rng {k:Nat} {F:Rho → Option Out} {α:Type} (P:Nat → α → Prop) (l:Nat → α → (Nat → Option PyData) → Rho) (n:Nat) (x0:α) (t0:Nat → Option PyData) (h0:P 0 x0)
    (step:∀ i x t,i < n → P i x → ∃ x' t',P (i + 1) x' ∧ F ((l i x t).set k (some (.int (i:Nat)))) = some (.nx (l (i + 1) x' t'))) :
    ∃ x t,P n x ∧ forD (setS k) F (rngL 0 n) (l 0 x0 t0) = some (.nx (l n x t)):=by
  have h:=forD_tr (S:=setS k) (F:=F) P l (rngL 0 n) x0 t0 h0 fun i d x t hd hx=>by
    obtain ⟨hi,rfl⟩:=rngL_get hd
    exact step i x t hi hx
  rw [rl_len] at h
  exact h
noncomputable abbrev tr2 (a b:Option PyData):Nat → Option PyData:=fun j=>[a,b].getD j none
noncomputable def dgOk (ds:List Int):Prop:=∀ d ∈ ds,0 ≤ d ∧ d < 1000003
theorem unit_eq (ns:List Int) (a:Nat) (hl:ns.length ≤ 63) (ha:a ≤ 1) :
    ∃ S:Int,((compO (setS 0) (fun _=>some true) E_l_digits_0 (rng3D [.int (a:Nat),.int (if (63:Int) < (ns.length:Nat) then 63 else (ns.length:Nat)),.int 2]) [none,some (.list (ns.map .int))]).map .list).bind sumD = some (.int S):=by
  have hm:(if (63:Int) < (ns.length:Nat) then 63 else ((ns.length:Nat):Int)) = (ns.length:Nat):=if_neg (by (clear ha; omega))
  rw [hm,rng3_ok (by (clear hm hl; omega)) (by (clear hm ha; omega))]
  have hlt:∀ i,i < ((((ns.length:Nat):Int) - (a:Nat) + 1) / 2).toNat → a + 2 * i < ns.length:=fun i hi=>by clear hm; (clear ha hl; omega)
  have hn:((((ns.length:Nat):Int) - (a:Nat) + 1) / 2).toNat ≤ 1000:=by clear hm hlt; (clear ha; omega)
  generalize ((((ns.length:Nat):Int) - (a:Nat) + 1) / 2).toNat = n at hlt hn
  refine ⟨((List.range n).map fun i=>ns.getD (a + 2 * i) 0).sum,?_⟩
  rw [compO_s (show (rngL2 (a:Nat) n).length ≤ 1000 by unfold rngL2; rw [List.length_map,List.length_range]; exact hn),show rngL2 (a:Nat) n = (List.range n).map (fun i:Nat=>PyData.int ((a:Nat) + (i:Nat) * 2)) from rfl,compD_map (S:=setS 0) (fe:=E_l_digits_0) (fun i:Nat=>PyData.int ((a:Nat) + (i:Nat) * 2)) PyData.int (fun i:Nat=>ns.getD (a + 2 * i) 0) (fun ρ=>∃ c,ρ = [c,some (.list (ns.map .int))]) (fun i=>a + 2 * i < ns.length) (fun i ρ hi ⟨c,e⟩=>⟨[some (.int ((a:Nat) + (i:Nat) * 2)),some (.list (ns.map .int))],by rw [e]; rfl,⟨_,rfl⟩,by
    show atI (ns.map PyData.int) _ = _
    rw [show (((a:Nat):Int) + (i:Nat) * 2) = ((a + 2 * i:Nat):Int) by (clear hi hn hlt hm ha hl; omega)]
    refine atI_nat ?_
    rw [List.getElem?_map,List.getElem?_eq_getElem hi,List.getD_eq_getElem?_getD,List.getElem?_eq_getElem hi]
    rfl⟩) (List.range n) [none,some (.list (ns.map .int))] ⟨_,rfl⟩ (fun i hi=>hlt i (List.mem_range.mp hi))]
  show (intsO _).map _ = _
  rw [intsO_map]
  rfl
noncomputable def nxF (S first:Int) (k:Nat):Int:=(first * first + S + 7919 * (k:Nat)) % 2147483629
noncomputable def nxD (rest f:Int):Int:=if 0 < rest then rest % 1000003 else f * f % 2147483587 % 1000003
theorem nxF_ok (S first:Int) (k:Nat):0 ≤ nxF S first k ∧ nxF S first k < 2147483629:=⟨Int.emod_nonneg _ (by decide),Int.emod_lt_of_pos _ (by decide)⟩
theorem nxD_ok (rest f:Int):0 ≤ nxD rest f ∧ nxD rest f < 1000003:=by
  unfold nxD
  split
  · exact ⟨Int.emod_nonneg _ (by decide),Int.emod_lt_of_pos _ (by decide)⟩
  · exact ⟨Int.emod_nonneg _ (by decide),Int.emod_lt_of_pos _ (by decide)⟩
theorem abs_small {f:Int} (h:0 ≤ f ∧ f < 2147483629):f.natAbs < 2 ^ 63:=by omega
theorem dig_step (s a p:Option PyData) (S first rest:Int) (ds:List Int) (k:Nat) (hf:0 ≤ first ∧ first < 2147483629) (hl:ds.length < 900) :
    L_l_digits_1 [s,a,p,some (.int S),some (.list (ds.map .int)),some (.int first),some (.int rest),some (.int (k:Nat))] = some (.nx [s,a,p,some (.int S),some (.list ((ds ++ [nxD rest (nxF S first k)]).map .int)),some (.int (nxF S first k)),some (.int (rest / 1000003)),some (.int (k:Nat))]):=by
  have ap:∀ (d:Int) (x5 x6:Option PyData),appD 4 [s,a,p,some (.int S),some (.list (ds.map .int)),x5,x6,some (.int (k:Nat))] (.int d) = some (.nx [s,a,p,some (.int S),some (.list ((ds ++ [d]).map .int)),x5,x6,some (.int (k:Nat))]):=fun d x5 x6=>by
    show (if decide ((ds.map PyData.int).length < 1000) = true then some (Out.nx [s,a,p,some (.int S),some (.list (ds.map PyData.int ++ [.int d])),x5,x6,some (.int (k:Nat))]) else none) = _
    rw [if_pos (decide_eq_true (by rw [List.length_map]; (clear hf; omega))),List.map_append]
    rfl
  unfold L_l_digits_1
  rw [seqF_nx (ρ':=[s,a,p,some (.int S),some (.list (ds.map .int)),some (.int (nxF S first k)),some (.int rest),some (.int (k:Nat))]) ?a1]
  case a1=>
    show setO 5 _ (bind2 (bind2 (bind2 (mulD (.int first) (.int first)) (some (.int S)) addD) (mulD (.int 7919) (.int (k:Nat))) addD) (some (.int 2147483629)) modD) = _
    rw [mulD_s1 (abs_small hf),mulD_s1 (by decide)]
    exact congrArg (setO 5 _) (modD_ok (b:=2147483629) (by decide))
  rw [seqF_nx (ρ':=[s,a,p,some (.int S),some (.list ((ds ++ [nxD rest (nxF S first k)]).map .int)),some (.int (nxF S first k)),some (.int rest),some (.int (k:Nat))]) ?a2]
  case a2=>
    show condO (some (decide (0 < rest))) ((modD (.int rest) (.int 1000003)).bind (appD 4 _)) ((bind2 (bind2 (mulD (.int (nxF S first k)) (.int (nxF S first k))) (some (.int 2147483587)) modD) (some (.int 1000003)) modD).bind (appD 4 _)) = _
    unfold nxD
    by_cases h:0 < rest
    · rw [decide_eq_true h,if_pos h,modD_ok (by decide)]
      exact ap _ _ _
    · rw [decide_eq_false h,if_neg h]
      show (bind2 (bind2 (mulD (.int (nxF S first k)) (.int (nxF S first k))) (some (.int 2147483587)) modD) (some (.int 1000003)) modD).bind (appD 4 _) = _
      rw [mulD_s1 (abs_small (nxF_ok S first k)),bind2_ss,modD_ok (by decide),bind2_ss,modD_ok (by decide)]
      exact ap _ _ _
  show setO 6 _ (fdivD (.int rest) (.int 1000003)) = _
  rw [fdivD_ok (by decide) rfl]
  rfl
theorem digits_eq (ns:List Int) (a:Nat) (hl:ns.length ≤ 63) (ha:a ≤ 1):∃ ds:List Int,ds.length = 120 ∧ dgOk ds ∧ F_l_digits [.list (ns.map .int),.int (a:Nat),.int 2] = some (.list (ds.map .int)):=by
  obtain ⟨S,eS⟩:=unit_eq ns a hl ha
  obtain ⟨x,t,h,e⟩:=forD_rng (k:=7) (F:=L_l_digits_1) (α:=List Int × Int × Int) (fun i x=>x.1.length = i ∧ dgOk x.1 ∧ (0 ≤ x.2.1 ∧ x.2.1 < 2147483629)) (fun _ x t=>[some (.list (ns.map .int)),some (.int (a:Nat)),some (.int 2),some (.int S),some (.list (x.1.map .int)),some (.int x.2.1),some (.int x.2.2),t 0])
    120 ([],(S * 48271 + 40503) % 2147483629,S * (if (10 ^ 18:Int) ≤ S then 1 else 0)) (fun _=>none) ⟨rfl,fun d hd=>absurd hd List.not_mem_nil,Int.emod_nonneg _ (by decide),Int.emod_lt_of_pos _ (by decide)⟩ fun i x t hi h=>
      ⟨(x.1 ++ [nxD x.2.2 (nxF S x.2.1 i)],nxF S x.2.1 i,x.2.2 / 1000003),fun _=>some (.int (i:Nat)),⟨by rw [List.length_append,h.1]; rfl,fun y hy=>(List.mem_append.mp hy).elim (h.2.1 y) fun z=>List.mem_singleton.mp z ▸ nxD_ok _ _,nxF_ok _ _ _⟩,dig_step _ _ _ S x.2.1 x.2.2 x.1 i h.2.2 (by rw [h.1]; (clear h eS ha hl; omega))⟩
  refine ⟨x.1.reverse,by rw [List.length_reverse,h.1],fun d hd=>h.2.1 d (List.mem_reverse.mp hd),?_⟩
  have q:B_l_digits [some (.list (ns.map .int)),some (.int (a:Nat)),some (.int 2),none,none,none,none,none] = some (.rt (.list (x.1.reverse.map .int))):=by
    unfold B_l_digits
    rw [seqF_nx (ρ':=[some (.list (ns.map .int)),some (.int (a:Nat)),some (.int 2),some (.int S),none,none,none,none]) ?s1]
    case s1=>
      show setO 3 _ (((compO (setS 0) (fun _=>some true) E_l_digits_0 (rng3D [.int (a:Nat),.int (if (63:Int) < ((ns.map PyData.int).length:Nat) then 63 else ((ns.map PyData.int).length:Nat)),.int 2]) [none,some (.list (ns.map .int))]).map .list).bind sumD) = _
      rw [List.length_map,eS]
      rfl
    rw [seqF_nx (ρ':=[some (.list (ns.map .int)),some (.int (a:Nat)),some (.int 2),some (.int S),some (.list []),none,none,none]) rfl]
    rw [seqF_nx (ρ':=[some (.list (ns.map .int)),some (.int (a:Nat)),some (.int 2),some (.int S),some (.list []),some (.int ((S * 48271 + 40503) % 2147483629)),none,none]) ?s3]
    case s3=>
      show setO 5 _ (bind2 (bind2 (mulD (.int S) (.int 48271)) (some (.int 40503)) addD) (some (.int 2147483629)) modD) = _
      rw [mulD_s2 (by decide)]
      exact congrArg (setO 5 _) (modD_ok (b:=2147483629) (by decide))
    rw [seqF_nx (ρ':=[some (.list (ns.map .int)),some (.int (a:Nat)),some (.int 2),some (.int S),some (.list []),some (.int ((S * 48271 + 40503) % 2147483629)),some (.int (S * (if (10 ^ 18:Int) ≤ S then 1 else 0))),none]) ?s4]
    case s4=>
      show setO 6 _ (mulD (.int S) (.int (if decide ((10 ^ 18:Int) ≤ S) = true then 1 else 0))) = _
      rw [mulD_s2 (by split <;> decide)]
      by_cases h:(10 ^ 18:Int) ≤ S
      · rw [decide_eq_true h,if_pos h]; rfl
      · rw [decide_eq_false h,if_neg h]; rfl
    rw [seqF_nx (ρ':=[some (.list (ns.map .int)),some (.int (a:Nat)),some (.int 2),some (.int S),some (.list (x.1.map .int)),some (.int x.2.1),some (.int x.2.2),t 0]) ?s5]
    case s5=>exact e
    show ((((some (x.1.map PyData.int).reverse).filter lf.go).map PyData.list).map Out.rt) = _
    rw [← List.map_reverse,filt (lf_zs _)]
    rfl
  show outD (B_l_digits [some (.list (ns.map .int)),some (.int (a:Nat)),some (.int 2),none,none,none,none,none]) = _
  rw [q]
  rfl
theorem pop_i {i:Nat} {ps:List Int} (h:ps ≠ []) {ρ:Rho} (hρ:(ρ[i]?).join = some (.list (ps.map .int))):popD i ρ = some (.int (ps.getLast h),ρ.set i (some (.list (ps.dropLast.map .int)))):=by
  unfold popD
  rw [hρ,Option.bind_some]
  show (some (ps.map PyData.int)).bind _ = _
  rw [Option.bind_some,List.getLast?_map,List.getLast?_eq_some_getLast h,Option.map_some,Option.map_some,List.map_dropLast]
theorem dg_drop {ps:List Int} (h:dgOk ps):dgOk ps.dropLast:=fun d hd=>h d (List.dropLast_subset _ hd)
theorem dg_last {ps:List Int} (h:ps ≠ []) (hd:dgOk ps):0 ≤ ps.getLast h ∧ ps.getLast h < 1000003:=hd _ (List.getLast_mem h)
theorem seqI_nx {F G:Rho → Option Out} {ρ ρ':Rho} (h:F ρ = some (.nx ρ')):seqI F G ρ = G ρ':=by
  unfold seqI
  rw [h]
  rfl
theorem pick (xs:List Int) {k:Int} (h0:0 ≤ k) (h:k < (xs.length:Nat)):∃ m ∈ xs,ixD (.list (xs.map .int)) (.int k) = some (.int m):=by
  obtain ⟨j,rfl⟩:=Int.eq_ofNat_of_zero_le h0
  have hj:j < xs.length:=Int.ofNat_lt.mp h
  exact ⟨xs[j],List.getElem_mem hj,atI_nat (by rw [List.getElem?_map,List.getElem?_eq_getElem hj]; rfl)⟩
theorem drop_ne {ps:List Int} {k:Nat} (h:ps.length = k + 1):ps ≠ [] ∧ ps.dropLast.length = k:=⟨List.ne_nil_of_length_pos (by omega),by rw [List.length_dropLast,h]; rfl⟩
theorem pop_mod {i:Nat} {ps:List Int} (h:ps ≠ []) {m:Int} (hm:0 < m) {g:Rho → Option PyData} {ρ:Rho} (hρ:(ρ[i]?).join = some (.list (ps.map .int))) (hg:g (ρ.set i (some (.list (ps.dropLast.map .int)))) = some (.int m)) :
    opL modD (popD i) g ρ = some (.int (ps.getLast h % m),ρ.set i (some (.list (ps.dropLast.map .int)))):=by
  unfold opL
  rw [pop_i h hρ,Option.bind_some]
  show (g (ρ.set i (some (.list (ps.dropLast.map .int))))).bind _ = _
  rw [hg,Option.bind_some,modD_ok hm]
  rfl
noncomputable def aI (i:Int):Int:=if i < 0 then -i else i
noncomputable def sd (p q:Int × Int):Int:=if aI (p.2 - q.2) > aI (p.1 - q.1) then aI (p.2 - q.2) else aI (p.1 - q.1)
noncomputable abbrev wN:List Str:=["many","places","chosen","last_mark","last_bar"]
noncomputable def encN (e:List Nat):PyData:=.list (e.map fun x=>.int (x:Nat))
noncomputable def encB (b:Option (List Nat)):PyData:=match b with
  | none=>.none
  | some c=>encN c
noncomputable def wD (m:Int) (P:List (Int × Int)) (c:List Nat) (k:Int) (b:Option (List Nat)):PyData:=objD "Watch" wN [.int m,encL P,encN c,.int k,encB b]
section
variable {m k:Int} {P:List (Int × Int)} {c:List Nat} {b:Option (List Nat)}
theorem f_many:fldD "Watch" "many" (wD m P c k b) = some (.int m):=by kernel_rfl
theorem f_places:fldD "Watch" "places" (wD m P c k b) = some (encL P):=by kernel_rfl
theorem f_chosen:fldD "Watch" "chosen" (wD m P c k b) = some (encN c):=by kernel_rfl
theorem f_mark:fldD "Watch" "last_mark" (wD m P c k b) = some (.int k):=by kernel_rfl
theorem f_bar:fldD "Watch" "last_bar" (wD m P c k b) = some (encB b):=by kernel_rfl
end
noncomputable def wy (P:List (Int × Int)) (i j:Nat):Int:=sd (P.getD i (0,0)) (P.getD j (0,0))
theorem ix_pl {P:List (Int × Int)} {i:Nat} (h:i < P.length):ixD (encL P) (.int (i:Nat)) = some (encP (P.getD i (0,0))):=by
  unfold encL
  exact atI_nat (by rw [List.getElem?_map,List.getElem?_eq_getElem h,List.getD_eq_getElem?_getD,List.getElem?_eq_getElem h]; rfl)
theorem side_eq (p q:Int × Int):F_p_side_between [encP p,encP q] = some (.int (sd p q)):=rfl
theorem bools_map:∀ bs:List Bool,boolsO (bs.map .bool) = some bs
  | []=>rfl
  | b :: r=>by
    rw [List.map_cons,boolsO,bools_map r]
    rfl
theorem all_map (bs:List Bool):allD (.list (bs.map .bool)) = some (.bool (bs.all id)):=by
  show ((boolsO (bs.map .bool)).map _) = _
  rw [bools_map]
  rfl
theorem obj_is (m:Int) (P:List (Int × Int)) (c:List Nat) (k:Int) (b:Option (List Nat)) {x:Str} (h:wN.all (fun n=>decide (n ≠ x)) = true):isObD "Watch" x (wD m P c k b) = true:=by
  show (decide (("Watch":Str) = "Watch") && (wN.map PyData.str).all fun n=>match n with | .str g=>decide (g ≠ x) | _=>false) = true
  rw [decide_eq_true rfl,Bool.true_and,List.all_map]
  exact h
section
variable {m k:Int} {P:List (Int × Int)} {c:List Nat} {b:Option (List Nat)}
theorem way_eq {i j:Nat} (hi:i < P.length) (hj:j < P.length):F_w_way_between [wD m P c k b,.int (i:Nat),.int (j:Nat)] = some (.int (wy P i j)):=by
  show outD (((consD (bind2 (fldD "Watch" "places" (wD m P c k b)) (some (.int (i:Nat))) ixD) (consD (bind2 (fldD "Watch" "places" (wD m P c k b)) (some (.int (j:Nat))) ixD) (some []))).bind F_p_side_between).map Out.rt) = _
  rw [f_places,bind2_ss,bind2_ss,ix_pl hi,ix_pl hj]
  show outD ((F_p_side_between [encP (P.getD i (0,0)),encP (P.getD j (0,0))]).map Out.rt) = _
  rw [side_eq]
  rfl
theorem callM_is {x:Str} {F:List PyData → Option PyData} {fo:Rho → Option PyData} {fs:Rho → Option (List PyData)} {ρ:Rho} {ds:List PyData} (h1:fo ρ = some (wD m P c k b)) (h2:fs ρ = some ds) (h:wN.all (fun n=>decide (n ≠ x)) = true):callM "Watch" x F fo fs ρ = F (wD m P c k b :: ds):=by
  unfold callM
  rw [h1,Option.bind_some,if_pos (obj_is m P c k b h),h2]
  rfl
noncomputable def isFar (P:List (Int × Int)) (k:Int) (n:Nat) (os:List Nat):Bool:=os.all fun o=>decide (2 * k < wy P n o)
theorem far_eq {n:Nat} (hn:n < P.length) {os:List Nat} (ho:∀ o ∈ os,o < P.length) (hl:os.length ≤ 900):F_w_is_far [wD m P c k b,.int (n:Nat),encN os] = some (.bool (isFar P k n os)):=by
  show outD ((((compO (setS 0) (fun _=>some true) E_w_is_far_0 (some (os.map fun x=>.int (x:Nat))) [none,some (wD m P c k b),some (.int (n:Nat))]).map PyData.list).bind allD).map Out.rt) = _
  rw [compO_s (by rw [List.length_map]; omega),compD_map (S:=setS 0) (fe:=E_w_is_far_0) (fun o:Nat=>PyData.int (o:Nat)) PyData.bool (fun o=>decide (2 * k < wy P n o)) (fun ρ=>∃ a,ρ = [a,some (wD m P c k b),some (.int (n:Nat))]) (fun o=>o < P.length) (fun o ρ hol ⟨a,e⟩=>⟨[some (.int (o:Nat)),some (wD m P c k b),some (.int (n:Nat))],by rw [e]; rfl,⟨_,rfl⟩,?_⟩) os [none,some (wD m P c k b),some (.int (n:Nat))] ⟨_,rfl⟩ ho]
  · show outD ((allD (.list ((os.map fun o=>decide (2 * k < wy P n o)).map .bool))).map Out.rt) = _
    rw [all_map,List.all_map]
    rfl
  · unfold E_w_is_far_0
    rw [callM_is (m:=m) (k:=k) (P:=P) (c:=c) (b:=b) (ds:=[.int (n:Nat),.int (o:Nat)]) rfl rfl (by decide +kernel),way_eq hn hol]
    show bind2 (some (.int (wy P n o))) (bind2 (some (.int 2)) (fldD "Watch" "last_mark" (wD m P c k b)) mulD) gtD = _
    rw [f_mark,bind2_ss,mulD_s1 (by decide),bind2_ss,gtD_ok]
end
theorem cut_take {α:Type} (e:α → PyData) (xs:List α) {p:Nat} (hp:p ≤ xs.length):cutD (some (.list (xs.map e))) (some none) (some (some ((p:Nat):Int))) = some ((xs.take p).map e):=by
  show some (cutL (xs.map e) none (some ((p:Nat):Int))) = _
  unfold cutL
  rw [show HT.sIx (xs.map e).length 0 none = 0 from rfl,List.drop_zero,Nat.sub_zero,HT.sIx_nat,List.length_map,Nat.min_eq_left hp,List.map_take]
noncomputable def wsP (P:List (Int × Int)) (c:List Nat) (p:Nat):List Int:=(c.take p).map fun o=>wy P (c.getD p 0) o
noncomputable def wsU (P:List (Int × Int)) (c:List Nat):Nat → List Int
  | 0=>[]
  | p + 1=>wsU P c p ++ wsP P c p
theorem wsU_len (P:List (Int × Int)) (c:List Nat):∀ p,p ≤ c.length → (wsU P c p).length ≤ p * c.length
  | 0,_=>Nat.zero_le _
  | p + 1,h=>by
    have ih:=wsU_len P c p (by omega)
    rw [wsU,List.length_append,wsP,List.length_map,List.length_take,Nat.add_mul,Nat.one_mul]
    omega
theorem wsU_mem {P:List (Int × Int)} {c:List Nat} {w:Int}:∀ {p},w ∈ wsU P c p ↔ ∃ i j,i < j ∧ j < p ∧ i < c.length ∧ wy P (c.getD j 0) (c.getD i 0) = w
  | 0=>⟨fun h=>(nomatch h),fun ⟨i,j,_,h,_⟩=>by omega⟩
  | p + 1=>by
    rw [wsU,List.mem_append,wsU_mem,wsP,List.mem_map]
    constructor
    · rintro (⟨i,j,h1,h2,h3,h4⟩ | ⟨o,h1,h2⟩)
      · exact ⟨i,j,h1,by omega,h3,h4⟩
      · obtain ⟨i,h3,h4⟩:=List.getElem_of_mem h1
        rw [List.length_take] at h3
        refine ⟨i,p,by omega,by omega,by omega,?_⟩
        rw [List.getElem_take] at h4
        rw [List.getD_eq_getElem?_getD (i:=i),List.getElem?_eq_getElem (by omega)]
        show wy P (c.getD p 0) c[i] = w
        rw [h4]
        exact h2
    · rintro ⟨i,j,h1,h2,h3,h4⟩
      by_cases hj:j < p
      · exact .inl ⟨i,j,h1,hj,h3,h4⟩
      · have:j = p:=by omega
        subst this
        refine .inr ⟨c.getD i 0,?_,h4⟩
        rw [List.getD_eq_getElem?_getD,List.getElem?_eq_getElem h3]
        show c[i] ∈ c.take j
        exact List.mem_take_iff_getElem.mpr ⟨i,by omega,rfl⟩
section
variable {m k:Int} {P:List (Int × Int)} {c:List Nat} {b:Option (List Nat)}
theorem lw_body {p:Nat} (hp:p < c.length) (hc:∀ o ∈ c,o < P.length) (hl:c.length ≤ 20) (x2 x3:Option PyData) :
    L_w_least_way_1 [some (wD m P c k b),some (.list ((wsU P c p).map .int)),some (.int (p:Nat)),some (.int (c.getD p 0:Nat))] = some (.nx [some (wD m P c k b),some (.list ((wsU P c (p + 1)).map .int)),some (.int (p:Nat)),some (.int (c.getD p 0:Nat))]):=by
  have hcp:c.getD p 0 < P.length:=hc _ (by rw [List.getD_eq_getElem?_getD,List.getElem?_eq_getElem hp]; exact List.getElem_mem hp)
  show (Option.filter lf.go (compO (setS 0) (fun _=>some true) E_w_least_way_0 (((cutD (fldD "Watch" "chosen" (wD m P c k b)) (some none) (some (some ((p:Nat):Int)))).map .list).bind listD) [none,some (wD m P c k b),some (.int (c.getD p 0:Nat))])).bind _ = _
  rw [f_chosen,show encN c = .list (c.map fun x=>.int (x:Nat)) from rfl,cut_take (fun x:Nat=>PyData.int (x:Nat)) c (by omega)]
  show (Option.filter lf.go (compO (setS 0) (fun _=>some true) E_w_least_way_0 (some ((c.take p).map fun x:Nat=>PyData.int (x:Nat))) [none,some (wD m P c k b),some (.int (c.getD p 0:Nat))])).bind _ = _
  rw [compO_s (by rw [List.length_map,List.length_take]; omega),compD_map (S:=setS 0) (fe:=E_w_least_way_0) (fun o:Nat=>PyData.int (o:Nat)) PyData.int (fun o=>wy P (c.getD p 0) o) (fun ρ=>∃ a,ρ = [a,some (wD m P c k b),some (.int (c.getD p 0:Nat))]) (fun o=>o < P.length) (fun o ρ hol ⟨a,e⟩=>⟨[some (.int (o:Nat)),some (wD m P c k b),some (.int (c.getD p 0:Nat))],by rw [e]; rfl,⟨_,rfl⟩,?_⟩) (c.take p) [none,some (wD m P c k b),some (.int (c.getD p 0:Nat))] ⟨_,rfl⟩ fun o ho=>hc o (List.mem_of_mem_take ho)]
  · have hlen:=wsU_len P c p (by omega)
    have h20:p * c.length ≤ 20 * 20:=Nat.mul_le_mul (by omega) hl
    rw [filt (lf_zs _)]
    show (if decide (((wsU P c p).map PyData.int).length + ((wsP P c p).map PyData.int).length < 1000) = true then some (Out.nx [some (wD m P c k b),some (.list ((wsU P c p).map .int ++ (wsP P c p).map .int)),some (.int (p:Nat)),some (.int (c.getD p 0:Nat))]) else none) = _
    rw [if_pos (decide_eq_true (by rw [List.length_map,List.length_map,wsP,List.length_map,List.length_take]; omega)),← List.map_append]
    rfl
  · unfold E_w_least_way_0
    rw [callM_is (m:=m) (k:=k) (P:=P) (c:=c) (b:=b) (ds:=[.int (c.getD p 0:Nat),.int (o:Nat)]) rfl rfl (by decide +kernel)]
    exact way_eq hcp hol
theorem least_eq (hc:∀ o ∈ c,o < P.length) (hl:c.length ≤ 20):F_w_least_way [wD m P c k b] = minLD (.list ((wsU P c c.length).map .int)):=by
  have e:enumL (c.map fun x:Nat=>PyData.int (x:Nat)) = (List.range c.length).map fun i=>PyData.tuple [.int (i:Nat),.int (c.getD i 0:Nat)]:=by
    unfold enumL
    apply List.ext_getElem?
    intro i
    rw [List.getElem?_zipWith,List.getElem?_map,List.getElem?_map,List.length_map]
    by_cases h:i < c.length
    · rw [List.getElem?_range h,List.getElem?_eq_getElem h]
      show some (PyData.tuple [.int ((i:Nat):Int),.int (c[i]:Nat)]) = some (.tuple [.int ((i:Nat):Int),.int (c.getD i 0:Nat)])
      rw [List.getD_eq_getElem?_getD,List.getElem?_eq_getElem h]
      rfl
    · rw [List.getElem?_eq_none (by rw [List.length_range]; omega)]
      rfl
  have loop:∀ (n p:Nat),p + n = c.length → ∀ x2 x3:Option PyData,∃ y2 y3,forD (tupS 2 (consS (setS 2) (consS (setS 3) (nilS)))) L_w_least_way_1 (((List.range c.length).drop p).map fun i=>PyData.tuple [.int (i:Nat),.int (c.getD i 0:Nat)]) [some (wD m P c k b),some (.list ((wsU P c p).map .int)),x2,x3] = some (.nx [some (wD m P c k b),some (.list ((wsU P c c.length).map .int)),y2,y3]):=by
    intro n
    induction n with
    | zero=>
      intro p hp x2 x3
      have:p = c.length:=by omega
      subst this
      rw [List.drop_eq_nil_of_le (by rw [List.length_range]; exact Nat.le_refl _)]
      exact ⟨x2,x3,rfl⟩
    | succ n ih=>
      intro p hp x2 x3
      have hpl:p < c.length:=by omega
      have hd:(List.range c.length).drop p = p :: (List.range c.length).drop (p + 1):=by
        rw [List.drop_eq_getElem_cons (by rw [List.length_range]; exact hpl),List.getElem_range]
      obtain ⟨y2,y3,h⟩:=ih (p + 1) (by omega) (some (.int (p:Nat))) (some (.int (c.getD p 0:Nat)))
      refine ⟨y2,y3,?_⟩
      rw [hd,List.map_cons]
      show (L_w_least_way_1 [some (wD m P c k b),some (.list ((wsU P c p).map .int)),some (.int (p:Nat)),some (.int (c.getD p 0:Nat))]).bind _ = _
      rw [lw_body hpl hc hl x2 x3]
      exact h
  obtain ⟨y2,y3,h⟩:=loop c.length 0 (by omega) none none
  have q:B_w_least_way [some (wD m P c k b),none,none,none] = (minLD (.list ((wsU P c c.length).map .int))).map Out.rt:=by
    unfold B_w_least_way
    rw [seqF_nx (ρ':=[some (wD m P c k b),some (.list []),none,none]) rfl]
    rw [seqF_nx (ρ':=[some (wD m P c k b),some (.list ((wsU P c c.length).map .int)),y2,y3]) ?s1]
    case s1=>
      show forO _ L_w_least_way_1 (((fldD "Watch" "chosen" (wD m P c k b)).bind listD).map enumL) _ = _
      rw [f_chosen]
      show forD _ L_w_least_way_1 (enumL (c.map fun x:Nat=>PyData.int (x:Nat))) _ = _
      rw [e]
      exact h
    rfl
  show outD (B_w_least_way [some (wD m P c k b),none,none,none]) = _
  rw [q]
  cases minLD (.list ((wsU P c c.length).map .int)) <;> rfl
end
noncomputable def kp (P:List (Int × Int)) (w:Int):List Nat → List Nat → List Nat
  | acc,[]=>acc
  | acc,n :: r=>kp P w (if isFar P w n acc = true then acc ++ [n] else acc) r
section
variable {m k:Int} {P:List (Int × Int)} {c:List Nat} {b:Option (List Nat)}
theorem rm_body {n:Nat} {acc:List Nat} (hn:n < P.length) (ho:∀ o ∈ acc,o < P.length) (hl:acc.length ≤ 900) :
    L_w_raise_mark_0 [some (wD m P c k b),some (encN acc),some (.int (n:Nat))] = some (.nx [some (wD m P c k b),some (encN (if isFar P k n acc = true then acc ++ [n] else acc)),some (.int (n:Nat))]):=by
  unfold L_w_raise_mark_0
  rw [callM_is (m:=m) (k:=k) (P:=P) (c:=c) (b:=b) (ds:=[.int (n:Nat),encN acc]) rfl rfl (by decide +kernel),far_eq hn ho hl]
  by_cases h:isFar P k n acc = true
  · rw [h,if_pos rfl]
    show (if decide ((acc.map fun x:Nat=>PyData.int (x:Nat)).length < 1000) = true then some (Out.nx [some (wD m P c k b),some (.list ((acc.map fun x:Nat=>PyData.int (x:Nat)) ++ [.int (n:Nat)])),some (.int (n:Nat))]) else none) = _
    rw [if_pos (decide_eq_true (by rw [List.length_map]; omega))]
    unfold encN
    rw [List.map_append]
    rfl
  · rw [Bool.eq_false_iff.mpr h,if_neg (by decide)]
    rfl
theorem rm_loop:∀ (t acc:List Nat),(∀ o ∈ t,o < P.length) → (∀ o ∈ acc,o < P.length) → acc.length + t.length ≤ 900 → ∀ x2,∃ y2,forD (setS 2) L_w_raise_mark_0 (t.map fun x:Nat=>PyData.int (x:Nat)) [some (wD m P c k b),some (encN acc),x2] = some (.nx [some (wD m P c k b),some (encN (kp P k acc t)),y2])
  | [],acc,_,_,_,x2=>⟨x2,rfl⟩
  | n :: r,acc,ht,ho,hl,x2=>by
    rw [List.length_cons] at hl
    have hn:=ht n List.mem_cons_self
    obtain ⟨y2,h⟩:=rm_loop r (if isFar P k n acc = true then acc ++ [n] else acc) (fun o z=>ht o (List.mem_cons_of_mem _ z)) (fun o z=>by
      split at z
      · rcases List.mem_append.mp z with z | z
        · exact ho o z
        · rw [List.mem_singleton.mp z]; exact hn
      · exact ho o z) (by split <;> (try rw [List.length_append,List.length_singleton]) <;> omega) (some (.int (n:Nat)))
    refine ⟨y2,?_⟩
    rw [List.map_cons]
    show (L_w_raise_mark_0 [some (wD m P c k b),some (encN acc),some (.int (n:Nat))]).bind _ = _
    rw [rm_body hn ho (by omega)]
    exact h
theorem loose_w {F:Rho → Option Out} {x y:Option PyData}:looseF 2 F [some (wD m P c k b),x,y] = F [some (wD m P c k b),x,y]:=rfl
theorem raise_eq (hc:∀ o ∈ c,o < P.length) (hl:c.length ≤ 20) {w:Int} (hw:minLD (.list ((wsU P c c.length).map .int)) = some (.int w)):FR_w_raise_mark [wD m P c k b] = some (.none,wD m P (kp P w [] c) w (some c)):=by
  obtain ⟨y2,h⟩:=rm_loop (m:=m) (c:=c) (b:=some c) (k:=w) c [] hc (fun _ z=>nomatch z) (by rw [List.length_nil]; omega) none
  have q:B_w_raise_mark [some (wD m P c k b),none,none] = some (.rt (.tuple [.none,wD m P (kp P w [] c) w (some c)])):=by
    unfold B_w_raise_mark
    rw [loose_w]
    rw [seqI_nx (ρ':=[some (wD m P c k (some c)),none,none]) rfl]
    rw [seqI_nx (ρ':=[some (wD m P c w (some c)),none,none]) ?s1]
    case s1=>
      unfold setFd
      dsimp only
      rw [callM_is (m:=m) (k:=k) (P:=P) (c:=c) (b:=some c) (ds:=[]) rfl rfl (by decide +kernel),least_eq hc hl,hw]
      rfl
    rw [seqI_nx (ρ':=[some (wD m P c w (some c)),some (encN []),none]) rfl]
    rw [seqI_nx (ρ':=[some (wD m P c w (some c)),some (encN (kp P w [] c)),y2]) ?s2]
    case s2=>exact h
    rfl
  show outRc (B_w_raise_mark [some (wD m P c k b),none,none]) = _
  rw [q]
  rfl
theorem come_if (q:Int × Int) (hP:P.length < 900) (hc:∀ o ∈ c,o < P.length) (hl:c.length ≤ 20) :
    ∃ G:Rho → Option Out,(∀ ρ,G ρ = seqI (fun ρ=>whileD W_w_come_0 L_w_come_1 ((fun ρ=>64) ρ) ρ) (retR (fun ρ=>(ρ[3]?).join)) ρ) ∧ B_w_come [some (wD m P c k b),some (.int q.1),some (.int q.2),none] = G [some (wD m (P ++ [q]) (if isFar (P ++ [q]) k P.length c = true then c ++ [P.length] else c) k b),some (.int q.1),some (.int q.2),some (.int (P.length:Nat))]:=by
  refine ⟨_,fun _=>rfl,?_⟩
  unfold B_w_come
  rw [seqI_nx (ρ':=[some (wD m P c k b),some (.int q.1),some (.int q.2),some (.int (P.length:Nat))]) ?s1]
  case s1=>
    show setO 3 _ ((consD (fldD "Watch" "places" (wD m P c k b)) (some [])).bind lenD) = _
    rw [f_places]
    show setO 3 _ (some (.int ((P.map encP).length:Nat))) = _
    rw [List.length_map]
    rfl
  rw [seqI_nx (ρ':=[some (wD m (P ++ [q]) c k b),some (.int q.1),some (.int q.2),some (.int (P.length:Nat))]) ?s2]
  case s2=>
    show (if decide ((P.map encP).length < 1000) = true then some (Out.nx [some (objD "Watch" wN [.int m,.list (P.map encP ++ [encP q]),encN c,.int k,encB b]),some (.int q.1),some (.int q.2),some (.int (P.length:Nat))]) else none) = _
    rw [if_pos (decide_eq_true (by rw [List.length_map]; omega))]
    unfold wD encL
    rw [List.map_append]
    rfl
  rw [seqI_nx (ρ':=[some (wD m (P ++ [q]) (if isFar (P ++ [q]) k P.length c = true then c ++ [P.length] else c) k b),some (.int q.1),some (.int q.2),some (.int (P.length:Nat))]) ?s3]
  case s3=>
    rw [callM_is (m:=m) (k:=k) (P:=P ++ [q]) (c:=c) (b:=b) (ds:=[.int (P.length:Nat),encN c]) rfl (by show consD _ (consD (fldD "Watch" "chosen" (wD m (P ++ [q]) c k b)) _) = _; rw [f_chosen]; rfl) (by decide +kernel),far_eq (by rw [List.length_append,List.length_singleton]; omega) (fun o z=>by have:=hc o z; rw [List.length_append]; omega) (by omega)]
    by_cases h:isFar (P ++ [q]) k P.length c = true
    · rw [h,if_pos rfl]
      show (if decide ((c.map fun x:Nat=>PyData.int (x:Nat)).length < 1000) = true then some (Out.nx [some (objD "Watch" wN [.int m,encL (P ++ [q]),.list ((c.map fun x:Nat=>PyData.int (x:Nat)) ++ [.int (P.length:Nat)]),.int k,encB b]),some (.int q.1),some (.int q.2),some (.int (P.length:Nat))]) else none) = _
      rw [if_pos (decide_eq_true (by rw [List.length_map]; omega))]
      unfold wD encN
      rw [List.map_append]
      rfl
    · rw [Bool.eq_false_iff.mpr h,if_neg (by decide)]
      rfl
theorem wh_end {t:Rho → Option Bool} {F:Rho → Option Out} {n:Nat} {ρ:Rho} (h:t ρ = some false):whileD t F (n + 1) ρ = some (.nx ρ):=by
  unfold whileD
  rw [h]
  rfl
theorem wh_step {t:Rho → Option Bool} {F:Rho → Option Out} {n:Nat} {ρ ρ':Rho} (h:t ρ = some true) (h2:F ρ = some (.nx ρ')):whileD t F (n + 1) ρ = whileD t F n ρ':=by
  show (t ρ).bind _ = _
  rw [h]
  show (F ρ).bind _ = _
  rw [h2]
  rfl
theorem wh_test (x y z:Option PyData):W_w_come_0 [some (wD m P c k b),x,y,z] = some (decide (m < (c.length:Nat))):=by
  show testD (bind2 ((consD (fldD "Watch" "chosen" (wD m P c k b)) (some [])).bind lenD) (fldD "Watch" "many" (wD m P c k b)) gtD) = _
  rw [f_chosen,f_many]
  show testD (bind2 (some (.int ((c.map fun x:Nat=>PyData.int (x:Nat)).length:Nat))) (some (.int m)) gtD) = _
  rw [List.length_map,bind2_ss,gtD_ok]
  rfl
theorem come_0 (q:Int × Int) (hP:P.length < 900) (hc:∀ o ∈ c,o < P.length) (hl:c.length ≤ 20) {c1:List Nat} (e1:(if isFar (P ++ [q]) k P.length c = true then c ++ [P.length] else c) = c1) (h1:(c1.length:Int) ≤ m) :
    FR_w_come [wD m P c k b,.int q.1,.int q.2] = some (.int (P.length:Nat),wD m (P ++ [q]) c1 k b):=by
  obtain ⟨G,hG,e⟩:=come_if (m:=m) (k:=k) (b:=b) q hP hc hl
  rw [hG,e1] at e
  show outRc (B_w_come [some (wD m P c k b),some (.int q.1),some (.int q.2),none]) = _
  rw [e,seqI_nx (ρ':=[some (wD m (P ++ [q]) c1 k b),some (.int q.1),some (.int q.2),some (.int (P.length:Nat))]) ?s1]
  case s1=>
    exact wh_end (n:=63) (by rw [wh_test,decide_eq_false (by omega)])
  rfl
theorem come_1 (q:Int × Int) (hP:P.length < 900) (hc:∀ o ∈ c,o < P.length) (hl:c.length < 20) {c1:List Nat} (e1:(if isFar (P ++ [q]) k P.length c = true then c ++ [P.length] else c) = c1) (h1:¬ (c1.length:Int) ≤ m) {w:Int} (hw:minLD (.list ((wsU (P ++ [q]) c1 c1.length).map .int)) = some (.int w)) (h2:((kp (P ++ [q]) w [] c1).length:Int) ≤ m) :
    FR_w_come [wD m P c k b,.int q.1,.int q.2] = some (.int (P.length:Nat),wD m (P ++ [q]) (kp (P ++ [q]) w [] c1) w (some c1)):=by
  obtain ⟨G,hG,e⟩:=come_if (m:=m) (k:=k) (b:=b) q hP hc (Nat.le_of_lt hl)
  rw [hG,e1] at e
  have hc1:∀ o ∈ c1,o < (P ++ [q]).length:=fun o z=>by
    rw [List.length_append,List.length_singleton]
    rw [← e1] at z
    split at z
    · rcases List.mem_append.mp z with z | z
      · have:=hc o z; omega
      · rw [List.mem_singleton.mp z]; omega
    · have:=hc o z; omega
  have hl1:c1.length ≤ 20:=by rw [← e1]; split <;> (try rw [List.length_append,List.length_singleton]) <;> omega
  show outRc (B_w_come [some (wD m P c k b),some (.int q.1),some (.int q.2),none]) = _
  rw [e,seqI_nx (ρ':=[some (wD m (P ++ [q]) (kp (P ++ [q]) w [] c1) w (some c1)),some (.int q.1),some (.int q.2),some (.int (P.length:Nat))]) ?s1]
  case s1=>
    refine (wh_step (n:=63) (ρ':=[some (wD m (P ++ [q]) (kp (P ++ [q]) w [] c1) w (some c1)),some (.int q.1),some (.int q.2),some (.int (P.length:Nat))]) (by rw [wh_test,decide_eq_true (by omega)]) ?_).trans (wh_end (n:=62) (by rw [wh_test,decide_eq_false (by omega)]))
    show ((FR_w_raise_mark [wD m (P ++ [q]) c1 k b]).map fun r=>Out.nx [some r.2,some (.int q.1),some (.int q.2),some (.int (P.length:Nat))]) = _
    rw [raise_eq hc1 hl1 hw]
    rfl
  rfl
end
theorem aI_is (i:Int):aI i = (i.natAbs:Int):=by unfold aI; split <;> omega
theorem sd_is (p q:Int × Int):sd p q = ((max (p.1 - q.1).natAbs (p.2 - q.2).natAbs:Nat):Int):=by
  unfold sd
  rw [aI_is,aI_is]
  split <;> omega
theorem sd_nn (p q:Int × Int):0 ≤ sd p q:=by rw [sd_is]; omega
theorem sd_self (p:Int × Int):sd p p = 0:=by rw [sd_is]; omega
theorem sd_tri (p q r:Int × Int):sd p r ≤ sd p q + sd q r:=by rw [sd_is,sd_is,sd_is]; omega
theorem wy_app (P:List (Int × Int)) (q:Int × Int) {i j:Nat} (hi:i < P.length) (hj:j < P.length):wy (P ++ [q]) i j = wy P i j:=by
  unfold wy
  rw [List.getD_eq_getElem?_getD,List.getD_eq_getElem?_getD,List.getElem?_append_left hi,List.getElem?_append_left hj,← List.getD_eq_getElem?_getD,← List.getD_eq_getElem?_getD]
theorem getD_mem {c:List Nat} {i:Nat} (h:i < c.length):c.getD i 0 ∈ c:=by
  rw [List.getD_eq_getElem?_getD,List.getElem?_eq_getElem h]
  exact List.getElem_mem h
noncomputable def Apt (P:List (Int × Int)) (d:Int) (e:List Nat):Prop:=∀ i j,i < j → j < e.length → d ≤ wy P (e.getD j 0) (e.getD i 0)
theorem Apt.app {P:List (Int × Int)} {d:Int} {e:List Nat} (q:Int × Int) (h:Apt P d e) (he:∀ o ∈ e,o < P.length):Apt (P ++ [q]) d e:=fun i j h1 h2=>by
  rw [wy_app P q (he _ (getD_mem h2)) (he _ (getD_mem (Nat.lt_trans h1 h2)))]
  exact h i j h1 h2
theorem Apt.snoc {P:List (Int × Int)} {d:Int} {e:List Nat} {n:Nat} (h:Apt P d e) (hn:∀ o ∈ e,d ≤ wy P n o):Apt P d (e ++ [n]):=fun i j h1 h2=>by
  rw [List.length_append,List.length_singleton] at h2
  have ei:(e ++ [n]).getD i 0 = e.getD i 0:=by
    rw [List.getD_eq_getElem?_getD,List.getD_eq_getElem?_getD,List.getElem?_append_left (by omega)]
  by_cases hj:j < e.length
  · rw [ei,show (e ++ [n]).getD j 0 = e.getD j 0 by rw [List.getD_eq_getElem?_getD,List.getD_eq_getElem?_getD,List.getElem?_append_left hj]]
    exact h i j h1 hj
  · obtain rfl:j = e.length:=by omega
    rw [ei,show (e ++ [n]).getD e.length 0 = n by rw [List.getD_eq_getElem?_getD,List.getElem?_append_right (Nat.le_refl _),Nat.sub_self]; rfl]
    exact hn _ (getD_mem (by omega))
theorem far_iff {P:List (Int × Int)} {k:Int} {n:Nat} {os:List Nat}:isFar P k n os = true ↔ ∀ o ∈ os,2 * k + 1 ≤ wy P n o:=by
  unfold isFar
  rw [List.all_eq_true]
  exact ⟨fun h o z=>by have:=of_decide_eq_true (h o z); omega,fun h o z=>decide_eq_true (by have:=h o z; omega)⟩
theorem far_not {P:List (Int × Int)} {k:Int} {n:Nat} {os:List Nat} (h:¬ isFar P k n os = true):∃ o ∈ os,wy P n o ≤ 2 * k:=by
  apply Classical.byContradiction
  intro z
  exact h (far_iff.mpr fun o ho=>Classical.byContradiction fun y=>z ⟨o,ho,by omega⟩)
section
variable {P:List (Int × Int)} {w:Int}
theorem kp_sub:∀ (t acc:List Nat) (o:Nat),o ∈ kp P w acc t → o ∈ acc ∨ o ∈ t
  | [],_,_,h=>.inl h
  | n :: r,acc,o,h=>by
    rcases kp_sub r _ o h with h | h
    · split at h
      · rcases List.mem_append.mp h with h | h
        · exact .inl h
        · exact .inr (List.mem_singleton.mp h ▸ List.mem_cons_self)
      · exact .inl h
    · exact .inr (List.mem_cons_of_mem _ h)
theorem kp_keep:∀ (t acc:List Nat) (o:Nat),o ∈ acc → o ∈ kp P w acc t
  | [],_,_,h=>h
  | n :: r,acc,o,h=>kp_keep r _ o (by split; exact List.mem_append_left _ h; exact h)
theorem kp_ap:∀ (t acc:List Nat),Apt P (2 * w + 1) acc → Apt P (2 * w + 1) (kp P w acc t)
  | [],_,h=>h
  | n :: r,acc,h=>kp_ap r _ (by
    split
    · next q=>exact h.snoc (far_iff.mp q)
    · exact h)
theorem kp_cov (hw:0 ≤ w):∀ (t acc:List Nat) (o:Nat),o ∈ t → ∃ o' ∈ kp P w acc t,wy P o o' ≤ 2 * w
  | n :: r,acc,o,h=>by
    rcases List.mem_cons.mp h with rfl | h
    · by_cases q:isFar P w o acc = true
      · refine ⟨o,?_,by rw [wy,sd_self]; omega⟩
        show o ∈ kp P w (if isFar P w o acc = true then acc ++ [o] else acc) r
        rw [if_pos q]
        exact kp_keep r _ o (List.mem_append_right _ (List.mem_singleton.mpr rfl))
      · obtain ⟨o',h1,h2⟩:=far_not q
        refine ⟨o',?_,h2⟩
        show o' ∈ kp P w (if isFar P w o acc = true then acc ++ [o] else acc) r
        rw [if_neg q]
        exact kp_keep r _ o' h1
    · exact kp_cov hw r _ o h
theorem kp_len:∀ (t acc:List Nat),kp P w acc t = acc ++ t ∨ (kp P w acc t).length < acc.length + t.length
  | [],acc=>.inl (List.append_nil _).symm
  | n :: r,acc=>by
    show kp P w (if isFar P w n acc = true then acc ++ [n] else acc) r = acc ++ n :: r ∨ (kp P w (if isFar P w n acc = true then acc ++ [n] else acc) r).length < acc.length + (n :: r).length
    by_cases q:isFar P w n acc = true
    · rw [if_pos q]
      rcases kp_len r (acc ++ [n]) with h | h
      · exact .inl (by rw [h,List.append_assoc]; rfl)
      · exact .inr (by rw [List.length_append,List.length_singleton] at h; rw [List.length_cons]; omega)
    · rw [if_neg q]
      rcases kp_len r acc with h | h
      · exact .inr (by rw [h,List.length_append,List.length_cons]; omega)
      · exact .inr (by rw [List.length_cons]; omega)
end
structure Wi (m:Int) (P:List (Int × Int)) (c:List Nat) (k:Int) (b:Option (List Nat)):Prop where
  k0:0 ≤ k
  lt:∀ o ∈ c,o < P.length
  le:(c.length:Int) ≤ m
  ap:Apt P (2 * k + 1) c
  cov:∀ n,n < P.length → ∃ o ∈ c,wy P n o ≤ 4 * k
  bar:(k = 0 ∧ b = none) ∨ (0 < k ∧ ∃ e,b = some e ∧ (e.length:Int) = m + 1 ∧ (∀ o ∈ e,o < P.length) ∧ Apt P k e)
theorem Wi.nil {m:Int} (h:0 ≤ m):Wi m [] [] 0 none:=⟨Int.le_refl _,fun _ z=>(nomatch z),h,fun _ _ _ z=>absurd z (Nat.not_lt_zero _),fun _ z=>absurd z (Nat.not_lt_zero _),.inl ⟨rfl,rfl⟩⟩
noncomputable def mn (P:List (Int × Int)) (c:List Nat) (n:Nat):Int:=match c.map (wy P n) with
  | []=>0
  | a :: r=>minI a r
theorem mn_eq {P:List (Int × Int)} {c:List Nat} {n:Nat} (h:c ≠ []):minLD (.list ((c.map fun o=>wy P n o).map .int)) = some (.int (mn P c n)):=by
  cases c with
  | nil=>exact absurd rfl h
  | cons a r=>
    show (intsO ((wy P n a :: r.map (wy P n)).map .int)).bind _ = _
    rw [intsO_map]
    rfl
theorem mn_is {P:List (Int × Int)} {c:List Nat} {n:Nat} (h:c ≠ []):(∃ o ∈ c,wy P n o = mn P c n) ∧ ∀ o ∈ c,mn P c n ≤ wy P n o:=by
  cases c with
  | nil=>exact absurd rfl h
  | cons a r=>
    obtain ⟨h1,h2⟩:=minI_is (r.map (wy P n)) (wy P n a)
    constructor
    · obtain ⟨o,h3,h4⟩:=List.mem_map.mp (show mn P (a :: r) n ∈ (a :: r).map (wy P n) from h1)
      exact ⟨o,h3,h4⟩
    · exact fun o ho=>h2 _ (show wy P n o ∈ (a :: r).map (wy P n) from List.mem_map_of_mem ho)
theorem wy_nn (P:List (Int × Int)) (i j:Nat):0 ≤ wy P i j:=sd_nn _ _
structure Mx (l:List Int) (r:Int):Prop where
  nn:0 ≤ r
  mem:r = 0 ∨ r ∈ l
  le:∀ x ∈ l,x ≤ r
theorem Mx.uniq {l:List Int} {r s:Int} (a:Mx l r) (b:Mx l s):r = s:=by
  have h1:=a.nn
  have h2:=b.nn
  rcases a.mem with h | h
  · rcases b.mem with g | g
    · omega
    · have:=a.le _ g; omega
  · have:=b.le _ h
    rcases b.mem with g | g
    · omega
    · have:=a.le _ g; omega
section
variable {m k:Int} {P:List (Int × Int)} {c:List Nat} {b:Option (List Nat)}
theorem folk_eq:F_w_folk [wD m P c k b] = some (encL P):=by
  show outD (((((fldD "Watch" "places" (wD m P c k b)).bind seqD).map .list)).map .rt) = _
  rw [f_places]
  rfl
theorem sc_ns (c:List Nat):(c.map fun x:Nat=>PyData.int (x:Nat)).all scD = true:=by
  rw [List.all_map]
  exact List.all_eq_true.mpr fun _ _=>rfl
theorem posts_eq:F_w_posts [wD m P c k b] = some (encN c):=by
  show outD (((((fldD "Watch" "chosen" (wD m P c k b)).bind seqD).filter (·.all scD)).map .list).map .rt) = _
  rw [f_chosen]
  show outD ((((some (c.map fun x:Nat=>PyData.int (x:Nat))).filter (·.all scD)).map .list).map .rt) = _
  rw [filt (p:=fun x:List PyData=>x.all scD) (sc_ns c)]
  rfl
theorem mark_eq:F_w_mark [wD m P c k b] = some (.int k):=by
  show outD ((fldD "Watch" "last_mark" (wD m P c k b)).map .rt) = _
  rw [f_mark]
  rfl
theorem bar_eq:F_w_bar [wD m P c k b] = some (encB b):=by
  show outD ((condO (testD (bind2 (fldD "Watch" "last_bar" (wD m P c k b)) (some .none) isNoneD)) ((some .none).filter scD) ((((fldD "Watch" "last_bar" (wD m P c k b)).bind seqD).filter (·.all scD)).map .list)).map .rt) = _
  rw [f_bar]
  cases b with
  | none=>rfl
  | some e=>
    show outD ((((some (e.map fun x:Nat=>PyData.int (x:Nat))).filter (·.all scD)).map .list).map .rt) = _
    rw [filt (p:=fun x:List PyData=>x.all scD) (sc_ns e)]
    rfl
theorem wtp_eq {n:Nat} (hn:n < P.length) (hc:∀ o ∈ c,o < P.length) (hl:c.length ≤ 900) (h0:c ≠ []):F_w_way_to_post [wD m P c k b,.int (n:Nat)] = some (.int (mn P c n)):=by
  show outD ((((compO (setS 0) (fun _=>some true) E_w_way_to_post_0 ((fldD "Watch" "chosen" (wD m P c k b)).bind listD) [none,some (wD m P c k b),some (.int (n:Nat))]).map PyData.list).bind minLD).map Out.rt) = _
  rw [f_chosen]
  show outD ((((compO (setS 0) (fun _=>some true) E_w_way_to_post_0 (some (c.map fun x:Nat=>PyData.int (x:Nat))) [none,some (wD m P c k b),some (.int (n:Nat))]).map PyData.list).bind minLD).map Out.rt) = _
  rw [compO_s (by rw [List.length_map]; omega),compD_map (S:=setS 0) (fe:=E_w_way_to_post_0) (fun o:Nat=>PyData.int (o:Nat)) PyData.int (fun o=>wy P n o) (fun ρ=>∃ a,ρ = [a,some (wD m P c k b),some (.int (n:Nat))]) (fun o=>o < P.length) (fun o ρ hol ⟨a,e⟩=>⟨[some (.int (o:Nat)),some (wD m P c k b),some (.int (n:Nat))],by rw [e]; rfl,⟨_,rfl⟩,?_⟩) c [none,some (wD m P c k b),some (.int (n:Nat))] ⟨_,rfl⟩ hc]
  · show outD ((minLD (.list ((c.map fun o=>wy P n o).map .int))).map Out.rt) = _
    rw [mn_eq h0]
    rfl
  · unfold E_w_way_to_post_0
    rw [callM_is (m:=m) (k:=k) (P:=P) (c:=c) (b:=b) (ds:=[.int (n:Nat),.int (o:Nat)]) rfl rfl (by decide +kernel)]
    exact way_eq hn hol
theorem reach_eq (hP:P.length < 900) (hc:∀ o ∈ c,o < P.length) (hl:c.length ≤ 900) (h0:P ≠ [] → c ≠ []):∃ R,F_w_reach [wD m P c k b] = some (.int R) ∧ Mx ((List.range P.length).map (mn P c)) R:=by
  have e:F_w_reach [wD m P c k b] = some (.int (maxOr 0 ((List.range P.length).map (mn P c)))):=by
    show outD ((((compO (setS 0) (fun _=>some true) E_w_reach_0 ((consD ((consD (fldD "Watch" "places" (wD m P c k b)) (some [])).bind lenD) (some [])).bind rng1D) [none,some (wD m P c k b)]).map PyData.list).bind (maxDf 0)).map Out.rt) = _
    rw [f_places]
    show outD ((((compO (setS 0) (fun _=>some true) E_w_reach_0 (rng1D [.int ((P.map encP).length:Nat)]) [none,some (wD m P c k b)]).map PyData.list).bind (maxDf 0)).map Out.rt) = _
    rw [List.length_map,rng1_ok (by omega) (by omega),Int.toNat_natCast,compO_s (by rw [rl_len]; omega),show rngL 0 P.length = (List.range P.length).map (fun i:Nat=>PyData.int (i:Nat)) by unfold rngL; exact List.map_congr_left fun i _=>by rw [Int.zero_add],compD_map (S:=setS 0) (fe:=E_w_reach_0) (fun o:Nat=>PyData.int (o:Nat)) PyData.int (mn P c) (fun ρ=>∃ a,ρ = [a,some (wD m P c k b)]) (fun o=>o < P.length) (fun o ρ hol ⟨a,e⟩=>⟨[some (.int (o:Nat)),some (wD m P c k b)],by rw [e]; rfl,⟨_,rfl⟩,?_⟩) (List.range P.length) [none,some (wD m P c k b)] ⟨_,rfl⟩ (fun o h=>List.mem_range.mp h)]
    · show outD (((intsO (((List.range P.length).map (mn P c)).map PyData.int)).map fun ns=>PyData.int (maxOr 0 ns)).map Out.rt) = _
      rw [intsO_map]
      rfl
    · unfold E_w_reach_0
      rw [callM_is (m:=m) (k:=k) (P:=P) (c:=c) (b:=b) (ds:=[.int (o:Nat)]) rfl rfl (by decide +kernel)]
      exact wtp_eq hol hc hl (h0 fun z=>by rw [z] at hol; exact absurd hol (Nat.not_lt_zero _))
  refine ⟨_,e,?_⟩
  have nn:∀ x ∈ (List.range P.length).map (mn P c),0 ≤ x:=fun x hx=>by
    obtain ⟨n,h1,rfl⟩:=List.mem_map.mp hx
    have h2:=List.mem_range.mp h1
    obtain ⟨⟨o,_,h3⟩,_⟩:=mn_is (P:=P) (n:=n) (h0 fun z=>by rw [z] at h2; exact absurd h2 (Nat.not_lt_zero _))
    rw [← h3]
    exact wy_nn _ _ _
  revert nn
  generalize (List.range P.length).map (mn P c) = l
  intro nn
  cases l with
  | nil=>exact ⟨Int.le_refl _,.inl rfl,fun _ z=>nomatch z⟩
  | cons a r=>
    obtain ⟨h1,h2⟩:=maxI_is r a
    exact ⟨nn _ h1,.inr h1,h2⟩
end
theorem p25:powD (.int 10) (.int 25) = some (.int (10 ^ 25)):=rfl
theorem p30:powD (.int 10) (.int 30) = some (.int (10 ^ 30)):=rfl
theorem place_eq {ps:List Int} (hp:2 ≤ ps.length) (hd:dgOk ps):∃ q:Int × Int,FI_l_place [.list (ps.map .int)] = some (encP q,ps.dropLast.dropLast.map .int):=by
  obtain ⟨k,hk⟩:∃ k,ps.length = k + 2:=⟨ps.length - 2,by omega⟩
  obtain ⟨n1,l1⟩:=drop_ne (k:=k + 1) hk
  obtain ⟨n2,l2⟩:=drop_ne (k:=k) l1
  obtain ⟨d1,d2⟩:=dg_last n1 hd
  obtain ⟨d3,d4⟩:=dg_last n2 (dg_drop hd)
  generalize e1:ps.getLast n1 = d at d1 d2
  generalize e2:ps.dropLast.getLast n2 = n at d3 d4
  have fin:∀ q:Int × Int,(fun ρ:Rho=>condO (testD (bind2 (bind2 ((ρ[1]?).join) (some (.int 16)) modD) (some (.int 1)) eqD)) ((retI 0 (fun ρ=>shortD .tuple (consD (bind2 (bind2 ((ρ[2]?).join) (bind2 (some (.int 10)) (some (.int 25)) powD) mulD) (bind2 (some (.int 5)) (bind2 (some (.int 10)) (some (.int 30)) powD) mulD) subD) (consD (bind2 (bind2 ((ρ[1]?).join) (bind2 (some (.int 10)) (some (.int 25)) powD) mulD) (bind2 (some (.int 5)) (bind2 (some (.int 10)) (some (.int 30)) powD) mulD) subD) (some []))))) ρ) ((seqI (fun ρ=>setO 3 ρ (veilF [0] (fun ρ=>bind2 ((shortL (consD (some (.int 3)) (consD (some (.int 10)) (consD (some (.int 100)) (consD (some (.int 1000)) (some [])))))).map .list) (bind2 (bind2 ((ρ[1]?).join) (some (.int 16)) fdivD) (some (.int 4)) modD) ixD) ρ)) (retI 0 (fun ρ=>shortD .tuple (consD (bind2 (bind2 (bind2 ((ρ[1]?).join) (some (.int 64)) fdivD) ((ρ[3]?).join) modD) (bind2 ((ρ[3]?).join) (some (.int 2)) fdivD) subD) (consD (bind2 (bind2 ((ρ[2]?).join) ((ρ[3]?).join) modD) (bind2 ((ρ[3]?).join) (some (.int 2)) fdivD) subD) (some [])))))) ρ)) [some (.list (ps.dropLast.dropLast.map .int)),some (.int d),some (.int n),none] = some (.rt (.tuple [encP q,.list (ps.dropLast.dropLast.map .int)])) → FI_l_place [.list (ps.map .int)] = some (encP q,ps.dropLast.dropLast.map .int):=fun q h=>by
    have b:B_l_place [some (.list (ps.map .int)),none,none,none] = some (.rt (.tuple [encP q,.list (ps.dropLast.dropLast.map .int)])):=by
      unfold B_l_place
      rw [seqI_nx (ρ':=[some (.list (ps.dropLast.map .int)),some (.int d),none,none]) ?s1]
      case s1=>
        rw [pop_i n1 rfl,e1]
        rfl
      rw [seqI_nx (ρ':=[some (.list (ps.dropLast.dropLast.map .int)),some (.int d),some (.int n),none]) ?s2]
      case s2=>
        rw [pop_i n2 rfl,e2]
        rfl
      exact h
    show outI (B_l_place [some (.list (ps.map .int)),none,none,none]) = _
    rw [b]
    rfl
  have m16:modD (.int d) (.int 16) = some (.int (d % 16)):=modD_ok (by decide)
  by_cases h16:d % 16 = 1
  · refine ⟨(n * 10 ^ 25 - 5 * 10 ^ 30,d * 10 ^ 25 - 5 * 10 ^ 30),fin _ ?_⟩
    show condO (testD (bind2 (modD (.int d) (.int 16)) (some (.int 1)) eqD)) (retI 0 _ _) _ = _
    rw [m16,bind2_ss,eqD_int,h16,beq_self_eq_true,testD_s,condO_t]
    unfold retI
    show (shortD .tuple (consD (bind2 (bind2 (some (.int n)) (powD (.int 10) (.int 25)) mulD) (bind2 (some (.int 5)) (powD (.int 10) (.int 30)) mulD) subD) (consD (bind2 (bind2 (some (.int d)) (powD (.int 10) (.int 25)) mulD) (bind2 (some (.int 5)) (powD (.int 10) (.int 30)) mulD) subD) (some [])))).bind _ = _
    rw [p25,p30,bind2_ss,bind2_ss,bind2_ss,mulD_s1 (a:=n) (by omega),mulD_s1 (a:=d) (by omega),mulD_s1 (a:=5) (by decide),bind2_ss,bind2_ss,subD_ok,subD_ok]
    rfl
  · have sz:∃ z,(0:Int) < z ∧ z ≤ 1000 ∧ ixD (.list [.int 3,.int 10,.int 100,.int 1000]) (.int (d / 16 % 4)) = some (.int z):=by
      obtain ⟨z,h1,h2⟩:=pick [3,10,100,1000] (k:=d / 16 % 4) (by omega) (by show d / 16 % 4 < 4; omega)
      refine ⟨z,?_,?_,h2⟩
      · simp at h1; omega
      · simp at h1; omega
    obtain ⟨z,z0,z1,ez⟩:=sz
    refine ⟨(d / 64 % z - z / 2,n % z - z / 2),fin _ ?_⟩
    show condO (testD (bind2 (modD (.int d) (.int 16)) (some (.int 1)) eqD)) _ (seqI _ _ _) = _
    rw [m16,bind2_ss,eqD_int,beq_eq_false_iff_ne.mpr h16,testD_s,condO_f]
    rw [seqI_nx (ρ':=[some (.list (ps.dropLast.dropLast.map .int)),some (.int d),some (.int n),some (.int z)]) ?s1]
    case s1=>
      show setO 3 _ (bind2 (some (.list [.int 3,.int 10,.int 100,.int 1000])) (bind2 (fdivD (.int d) (.int 16)) (some (.int 4)) modD) ixD) = _
      rw [fdivD_ok (by decide) rfl,bind2_ss,modD_ok (by decide),bind2_ss,ez]
      rfl
    unfold retI
    show (shortD .tuple (consD (bind2 (bind2 (fdivD (.int d) (.int 64)) (some (.int z)) modD) (fdivD (.int z) (.int 2)) subD) (consD (bind2 (modD (.int n) (.int z)) (fdivD (.int z) (.int 2)) subD) (some [])))).bind _ = _
    rw [fdivD_ok (a:=d) (by decide) rfl,fdivD_ok (a:=z) (by decide) rfl,bind2_ss,modD_ok z0,modD_ok z0,bind2_ss,bind2_ss,subD_ok,subD_ok]
    rfl
theorem init_eq {m:Int} (h:1 ≤ m):newW "Watch" FR_w_init (some [.int m]) = some (wD m [] [] 0 none):=by
  have ck:F_p_check_many [.int m] = some .none:=by
    show outD (condO (testD (ltD (.int m) (.int 1))) none (some (.nx [some (.int m)]))) = _
    rw [ltD_ok,decide_eq_false (by omega)]
    rfl
  have b:B_w_init [some (objD "Watch" [] []),some (.int m)] = some (.rt (.tuple [.none,wD m [] [] 0 none])):=by
    unfold B_w_init
    rw [seqI_nx (ρ':=[some (objD "Watch" [] []),some (.int m)]) ?s1]
    case s1=>
      show dropO _ (F_p_check_many [.int m]) = _
      rw [ck]
      rfl
    rfl
  show (FR_w_init [objD "Watch" [] [],.int m]).bind _ = _
  rw [show FR_w_init [objD "Watch" [] [],.int m] = outRc (B_w_init [some (objD "Watch" [] []),some (.int m)]) from rfl,b]
  rfl
noncomputable def mnL:List Int → Int
  | []=>0
  | n :: r=>minI n r
theorem mnL_eq {l:List Int} (h:l ≠ []):minLD (.list (l.map .int)) = some (.int (mnL l)):=by
  cases l with
  | nil=>exact absurd rfl h
  | cons n r=>
    show (intsO ((n :: r).map .int)).bind _ = _
    rw [intsO_map]
    rfl
theorem mnL_is {l:List Int} (h:l ≠ []):mnL l ∈ l ∧ ∀ x ∈ l,mnL l ≤ x:=by
  cases l with
  | nil=>exact absurd rfl h
  | cons n r=>exact minI_is r n
noncomputable def addW (P:List (Int × Int)) (n:Nat) (c:List Nat) (k:Int):List Nat:=if isFar P k n c = true then c ++ [n] else c
noncomputable def stepW (m:Int) (P:List (Int × Int)) (n:Nat) (c:List Nat) (k:Int) (b:Option (List Nat)):List Nat × Int × Option (List Nat):=
  if ((addW P n c k).length:Int) ≤ m then (addW P n c k,k,b)
  else (kp P (mnL (wsU P (addW P n c k) (addW P n c k).length)) [] (addW P n c k),mnL (wsU P (addW P n c k) (addW P n c k).length),some (addW P n c k))
theorem come_ok {m k:Int} {P:List (Int × Int)} {c:List Nat} {b:Option (List Nat)} (h:Wi m P c k b) (h1:1 ≤ m) (h6:m ≤ 6) (hP:P.length < 900) (q:Int × Int) {s:List Nat × Int × Option (List Nat)} (es:stepW m (P ++ [q]) P.length c k b = s) :
    Wi m (P ++ [q]) s.1 s.2.1 s.2.2 ∧ (∃ o ∈ s.1,wy (P ++ [q]) P.length o ≤ 2 * s.2.1) ∧ FR_w_come [wD m P c k b,.int q.1,.int q.2] = some (.int (P.length:Nat),wD m (P ++ [q]) s.1 s.2.1 s.2.2):=by
  have hle:=h.le
  have hk0:=h.k0
  have L1:(P ++ [q]).length = P.length + 1:=by rw [List.length_append,List.length_singleton]
  subst es
  unfold stepW
  generalize e1:addW (P ++ [q]) P.length c k = c1
  unfold addW at e1
  have lt1:∀ o ∈ c1,o < (P ++ [q]).length:=fun o z=>by
    rw [L1]
    rw [← e1] at z
    split at z
    · rcases List.mem_append.mp z with z | z
      · have:=h.lt o z; omega
      · rw [List.mem_singleton.mp z]; omega
    · have:=h.lt o z; omega
  have ap1:Apt (P ++ [q]) (2 * k + 1) c1:=by
    rw [← e1]
    split
    · next z=>exact (h.ap.app q h.lt).snoc (far_iff.mp z)
    · exact h.ap.app q h.lt
  have nr1:∃ o ∈ c1,wy (P ++ [q]) P.length o ≤ 2 * k:=by
    by_cases z:isFar (P ++ [q]) k P.length c = true
    · exact ⟨P.length,by rw [← e1,if_pos z]; exact List.mem_append_right _ (List.mem_singleton.mpr rfl),by rw [wy,sd_self]; omega⟩
    · obtain ⟨o,h2,h3⟩:=far_not z
      exact ⟨o,by rw [← e1,if_neg z]; exact h2,h3⟩
  have cov1:∀ n,n < (P ++ [q]).length → ∃ o ∈ c1,wy (P ++ [q]) n o ≤ 4 * k:=fun n hn=>by
    rw [L1] at hn
    by_cases hn2:n < P.length
    · obtain ⟨o,h2,h3⟩:=h.cov n hn2
      refine ⟨o,?_,by rw [wy_app P q hn2 (h.lt o h2)]; exact h3⟩
      rw [← e1]
      split
      · exact List.mem_append_left _ h2
      · exact h2
    · obtain rfl:n = P.length:=by omega
      obtain ⟨o,h2,h3⟩:=nr1
      exact ⟨o,h2,by omega⟩
  have len1:c1.length ≤ c.length + 1:=by rw [← e1]; split <;> (try rw [List.length_append,List.length_singleton]) <;> omega
  by_cases g:(c1.length:Int) ≤ m
  · rw [if_pos g]
    refine ⟨⟨hk0,lt1,g,ap1,cov1,?_⟩,nr1,come_0 q hP h.lt (by omega) e1 g⟩
    rcases h.bar with h2 | ⟨h2,e,h3,h4,h5,h7⟩
    · exact .inl h2
    · exact .inr ⟨h2,e,h3,h4,fun o z=>by have:=h5 o z; omega,h7.app q h5⟩
  · rw [if_neg g]
    have hne:wsU (P ++ [q]) c1 c1.length ≠ []:=fun z=>by
      have:wy (P ++ [q]) (c1.getD 1 0) (c1.getD 0 0) ∈ wsU (P ++ [q]) c1 c1.length:=wsU_mem.mpr ⟨0,1,by omega,by omega,by omega,rfl⟩
      rw [z] at this
      exact nomatch this
    have hw:=mnL_eq hne
    obtain ⟨hw1,hw2⟩:=mnL_is hne
    generalize mnL (wsU (P ++ [q]) c1 c1.length) = w at hw hw1 hw2 ⊢
    dsimp only
    obtain ⟨i,j,h2,h3,h4,h5⟩:=wsU_mem.mp hw1
    have wk:2 * k + 1 ≤ w:=by rw [← h5]; exact ap1 i j h2 h3
    have apw:Apt (P ++ [q]) w c1:=fun i j h2 h3=>hw2 _ (wsU_mem.mpr ⟨i,j,h2,h3,by omega,rfl⟩)
    have aq:=kp_ap (P:=P ++ [q]) (w:=w) c1 [] (fun _ _ _ z=>absurd z (Nat.not_lt_zero _))
    have lq:(kp (P ++ [q]) w [] c1).length < c1.length:=by
      rcases kp_len (P:=P ++ [q]) (w:=w) c1 [] with z | z
      · rw [List.nil_append] at z
        rw [z] at aq
        have:=aq i j h2 h3
        omega
      · rw [List.length_nil] at z
        omega
    refine ⟨⟨by omega,fun o z=>lt1 o ((kp_sub c1 [] o z).resolve_left (fun y=>nomatch y)),by omega,aq,fun n hn=>?_,.inr ⟨by omega,c1,rfl,by omega,lt1,apw⟩⟩,?_,come_1 q hP h.lt (by omega) e1 g hw (by omega)⟩
    · obtain ⟨o,h7,h8⟩:=cov1 n hn
      obtain ⟨o',h9,h10⟩:=kp_cov (P:=P ++ [q]) (w:=w) (by omega) c1 [] o h7
      refine ⟨o',h9,?_⟩
      have:=sd_tri ((P ++ [q]).getD n (0,0)) ((P ++ [q]).getD o (0,0)) ((P ++ [q]).getD o' (0,0))
      unfold wy at h8 h10 ⊢
      omega
    · by_cases z:isFar (P ++ [q]) k P.length c = true
      · have hm:P.length ∈ c1:=by rw [← e1,if_pos z]; exact List.mem_append_right _ (List.mem_singleton.mpr rfl)
        exact kp_cov (P:=P ++ [q]) (w:=w) (by omega) c1 [] _ hm
      · rw [if_neg z] at e1
        rw [← e1] at g
        exact absurd hle g
section
variable {P1 P2:List (Int × Int)} {g:Nat → Nat} {t:Int} {N:Nat}
noncomputable def Rel (P1 P2:List (Int × Int)) (g:Nat → Nat) (t:Int) (N:Nat):Prop:=∀ i j,i < N → j < N → wy P2 (g i) (g j) = t * wy P1 i j
theorem far_rel (h:Rel P1 P2 g t N) (ht:0 < t) {n:Nat} (hn:n < N) {k:Int}:∀ {os:List Nat},(∀ o ∈ os,o < N) → isFar P2 (t * k) (g n) (os.map g) = isFar P1 k n os
  | [],_=>rfl
  | o :: r,ho=>by
    have ih:=far_rel h ht hn (k:=k) (os:=r) fun x z=>ho x (List.mem_cons_of_mem _ z)
    unfold isFar at ih ⊢
    rw [List.map_cons,List.all_cons,List.all_cons,ih,h n o hn (ho o List.mem_cons_self)]
    congr 1
    apply decide_eq_decide.mpr
    rw [show 2 * (t * k) = t * (2 * k) by rw [← Int.mul_assoc,← Int.mul_assoc,Int.mul_comm 2 t]]
    exact ⟨fun z=>Int.lt_of_mul_lt_mul_left z (by omega),fun z=>Int.mul_lt_mul_of_pos_left z ht⟩
theorem add_rel (h:Rel P1 P2 g t N) (ht:0 < t) {n:Nat} (hn:n < N) {k:Int} {c:List Nat} (hc:∀ o ∈ c,o < N):addW P2 (g n) (c.map g) (t * k) = (addW P1 n c k).map g:=by
  unfold addW
  rw [far_rel h ht hn hc]
  split
  · rw [List.map_append]; rfl
  · rfl
theorem ws_rel (h:Rel P1 P2 g t N) {c:List Nat} (hc:∀ o ∈ c,o < N):∀ p,p ≤ c.length → wsU P2 (c.map g) p = (wsU P1 c p).map (t * ·)
  | 0,_=>rfl
  | p + 1,hp=>by
    have gp:(c.map g).getD p 0 = g (c.getD p 0):=by
      rw [List.getD_eq_getElem?_getD,List.getElem?_map,List.getD_eq_getElem?_getD,List.getElem?_eq_getElem (by omega)]
      rfl
    rw [wsU,ws_rel h hc p (by omega),wsU,List.map_append,wsP,wsP,gp,← List.map_take,List.map_map,List.map_map]
    congr 1
    refine List.map_congr_left fun o ho=>?_
    exact h _ _ (hc _ (getD_mem (by omega))) (hc o (List.mem_of_mem_take ho))
theorem mn_unique {l:List Int} {x y:Int} (h1:x ∈ l) (h2:∀ z ∈ l,x ≤ z) (h3:y ∈ l) (h4:∀ z ∈ l,y ≤ z):x = y:=by
  have:=h2 y h3
  have:=h4 x h1
  omega
theorem mnL_mul (ht:0 < t) {l:List Int}:mnL (l.map (t * ·)) = t * mnL l:=by
  by_cases h:l = []
  · subst h; exact (Int.mul_zero t).symm
  · obtain ⟨h1,h2⟩:=mnL_is h
    obtain ⟨h3,h4⟩:=mnL_is (l:=l.map (t * ·)) fun z=>h (List.map_eq_nil_iff.mp z)
    refine mn_unique h3 h4 (List.mem_map_of_mem h1) fun z hz=>?_
    obtain ⟨y,hy,rfl⟩:=List.mem_map.mp hz
    exact Int.mul_le_mul_of_nonneg_left (h2 y hy) (by omega)
theorem kp_rel (h:Rel P1 P2 g t N) (ht:0 < t) {w:Int}:∀ (l acc:List Nat),(∀ o ∈ l,o < N) → (∀ o ∈ acc,o < N) → kp P2 (t * w) (acc.map g) (l.map g) = (kp P1 w acc l).map g
  | [],_,_,_=>rfl
  | n :: r,acc,hl,ha=>by
    have hn:=hl n List.mem_cons_self
    have ih:=kp_rel h ht (w:=w) r (if isFar P1 w n acc = true then acc ++ [n] else acc) (fun o z=>hl o (List.mem_cons_of_mem _ z)) (fun o z=>by
      split at z
      · rcases List.mem_append.mp z with z | z
        · exact ha o z
        · rw [List.mem_singleton.mp z]; exact hn
      · exact ha o z)
    show kp P2 (t * w) (if isFar P2 (t * w) (g n) (acc.map g) = true then acc.map g ++ [g n] else acc.map g) (r.map g) = (kp P1 w (if isFar P1 w n acc = true then acc ++ [n] else acc) r).map g
    rw [← ih,far_rel h ht hn ha]
    congr 1
    split
    · rw [List.map_append]; rfl
    · rfl
theorem step_rel (h:Rel P1 P2 g t N) (ht:0 < t) {n:Nat} (hn:n < N) {m k:Int} {c:List Nat} {b:Option (List Nat)} (hc:∀ o ∈ c,o < N):stepW m P2 (g n) (c.map g) (t * k) (b.map (List.map g)) = ((stepW m P1 n c k b).1.map g,t * (stepW m P1 n c k b).2.1,(stepW m P1 n c k b).2.2.map (List.map g)):=by
  unfold stepW
  rw [add_rel h ht hn hc]
  have hc1:∀ o ∈ addW P1 n c k,o < N:=fun o z=>by
    unfold addW at z
    split at z
    · rcases List.mem_append.mp z with z | z
      · exact hc o z
      · rw [List.mem_singleton.mp z]; exact hn
    · exact hc o z
  generalize addW P1 n c k = c1 at hc1
  rw [List.length_map,ws_rel h hc1 _ (Nat.le_refl _),mnL_mul ht]
  by_cases z:(c1.length:Int) ≤ m
  · rw [if_pos z,if_pos z]
  · rw [if_neg z,if_neg z]
    have:=kp_rel h ht (w:=mnL (wsU P1 c1 c1.length)) c1 [] hc1 (fun _ y=>nomatch y)
    rw [List.map_nil] at this
    rw [this]
    rfl
theorem mn_rel (h:Rel P1 P2 g t N) (ht:0 < t) {c:List Nat} (hc:∀ o ∈ c,o < N) {n:Nat} (hn:n < N):mn P2 (c.map g) (g n) = t * mn P1 c n:=by
  have e:(c.map g).map (wy P2 (g n)) = (c.map (wy P1 n)).map (t * ·):=by
    rw [List.map_map,List.map_map]
    exact List.map_congr_left fun o ho=>h n o hn (hc o ho)
  have d:∀ (P:List (Int × Int)) (c:List Nat) (n:Nat),mn P c n = mnL (c.map (wy P n)):=fun P c n=>by
    unfold mn
    cases c.map (wy P n) <;> rfl
  rw [d,d,e,mnL_mul ht]
end
theorem Mx.mul {l:List Int} {r t:Int} (h:Mx l r) (ht:0 < t):Mx (l.map (t * ·)) (t * r):=by
  refine ⟨Int.mul_nonneg (by omega) h.nn,?_,fun x hx=>?_⟩
  · rcases h.mem with z | z
    · left; rw [z,Int.mul_zero]
    · exact .inr (List.mem_map_of_mem z)
  · obtain ⟨y,hy,rfl⟩:=List.mem_map.mp hx
    exact Int.mul_le_mul_of_nonneg_left (h.le y hy) (by omega)
section
variable {m k:Int} {P:List (Int × Int)} {c:List Nat} {b:Option (List Nat)}
theorem cm {x:Str} {F:List PyData → Option PyData} {r:Option PyData} {ρ:Rho} (h0:(ρ[0]?).join = some (wD m P c k b)) (h:F [wD m P c k b] = r) (hx:wN.all (fun n=>decide (n ≠ x)) = true):callM "Watch" x F (fun ρ=>(ρ[0]?).join) (fun _=>some []) ρ = r:=(callM_is h0 rfl hx).trans h
theorem told_eq {R t:Int} (e:F_w_reach [wD m P c k b] = some (.int R)) (ht:t.natAbs < 2 ^ 63):F_l_told [wD m P c k b,.int t] = some (.list [encN c,encB b,.int (k * t),.int (R * t)]):=by
  show outD (B_l_told [some (wD m P c k b),some (.int t)]) = _
  unfold B_l_told
  rw [cm rfl posts_eq (by decide +kernel),cm rfl bar_eq (by decide +kernel),cm rfl mark_eq (by decide +kernel),cm rfl e (by decide +kernel)]
  show outD (((shortL (consD (some (encN c)) (consD (some (encB b)) (consD ((mulD (.int k) (.int t)).filter scD) (consD ((mulD (.int R) (.int t)).filter scD) (some [])))))).map .list).map .rt) = _
  rw [mulD_s2 ht,mulD_s2 ht]
  rfl
theorem places_eq {R:Int} (e:F_w_reach [wD m P c k b] = some (.int R)) (hc:∀ o ∈ c,o < P.length) (hl:c.length ≤ 900):F_l_places [wD m P c k b] = some (.list [encL (c.map fun o=>P.getD o (0,0)),.int k,.int R]):=by
  show outD (B_l_places [some (wD m P c k b),none]) = _
  unfold B_l_places
  rw [seqF_nx (ρ':=[some (wD m P c k b),some (encL P)]) ?s1]
  case s1=>rw [cm rfl folk_eq (by decide +kernel)]; rfl
  rw [cm rfl posts_eq (by decide +kernel),cm rfl mark_eq (by decide +kernel),cm rfl e (by decide +kernel)]
  show outD (((shortL (consD ((compO (setS 0) (fun _=>some true) E_l_places_0 (some (c.map fun x:Nat=>PyData.int (x:Nat))) [none,some (encL P)]).map .list) (consD (some (.int k)) (consD (some (.int R)) (some []))))).map .list).map .rt) = _
  rw [compO_s (by rw [List.length_map]; omega),compD_map (S:=setS 0) (fe:=E_l_places_0) (fun o:Nat=>PyData.int (o:Nat)) encP (fun o=>P.getD o (0,0)) (fun ρ=>∃ a,ρ = [a,some (encL P)]) (fun o=>o < P.length) (fun o ρ hol ⟨a,e⟩=>⟨[some (.int (o:Nat)),some (encL P)],by rw [e]; rfl,⟨_,rfl⟩,ix_pl hol⟩) c [none,some (encL P)] ⟨_,rfl⟩ hc]
  rfl
end
theorem lay_ns (c:List Nat):PyData.canLayAll0 (c.map fun x:Nat=>PyData.int (x:Nat)) = true ∧ PyData.depthAll (c.map fun x:Nat=>PyData.int (x:Nat)) ≤ 1:=by
  have:=lay_ints (c.map fun x:Nat=>((x:Nat):Int))
  rw [List.map_map] at this
  exact this
theorem eqv_ns (c:List Nat):PyData.eqvAll (c.map fun x:Nat=>PyData.int (x:Nat)) (c.map fun x:Nat=>PyData.int (x:Nat)) = true:=by
  have:=eqv_ints2 (c.map fun x:Nat=>((x:Nat):Int)) (c.map fun x:Nat=>((x:Nat):Int))
  rw [List.map_map] at this
  exact this.trans (decide_eq_true rfl)
theorem ne_told (c:List Nat) (b:Option (List Nat)) (i j:Int):neD (.list [encN c,encB b,.int i,.int j]) (.list [encN c,encB b,.int i,.int j]) = some (.bool false):=by
  obtain ⟨h1,h2⟩:=lay_ns c
  have sh:SeqAt.shaped (.list [encN c,encB b,.int i,.int j]) = true:=by
    cases b with
    | none=>
      simp [SeqAt.shaped,encN,encB,PyData.canLay0,PyData.canLayAll0,PyData.depth,PyData.depthAll,h1]
      omega
    | some e=>
      obtain ⟨h3,h4⟩:=lay_ns e
      simp [SeqAt.shaped,encN,encB,PyData.canLay0,PyData.canLayAll0,PyData.depth,PyData.depthAll,h1,h3]
      omega
  have eq:PyData.eqv (.list [encN c,encB b,.int i,.int j]) (.list [encN c,encB b,.int i,.int j]) = true:=by
    cases b with
    | none=>simp [encN,encB,PyData.eqv,PyData.eqvAll,eqv_ns c]
    | some e=>simp [encN,encB,PyData.eqv,PyData.eqvAll,eqv_ns c,eqv_ns e]
  unfold neD
  rw [sh,eq]
  rfl
theorem ne_places (l:List (Int × Int)) (i j:Int):neD (.list [encL l,.int i,.int j]) (.list [encL l,.int i,.int j]) = some (.bool false):=by
  obtain ⟨h1,h2⟩:=canLay_encs l
  have sh:SeqAt.shaped (.list [encL l,.int i,.int j]) = true:=by
    simp [SeqAt.shaped,encL,PyData.canLay0,PyData.canLayAll0,PyData.depth,PyData.depthAll,h1]
    omega
  have eq:PyData.eqv (.list [encL l,.int i,.int j]) (.list [encL l,.int i,.int j]) = true:=by
    simp [encL,PyData.eqv,PyData.eqvAll,eqv_encs]
  unfold neD
  rw [sh,eq]
  rfl
theorem rel_map {t:Int} (φ:Int × Int → Int × Int) (h:∀ p q,sd (φ p) (φ q) = t * sd p q) (P:List (Int × Int)):Rel P (P.map φ) id t P.length:=fun i j hi hj=>by
  have g:∀ i,i < P.length → (P.map φ).getD i (0,0) = φ (P.getD i (0,0)):=fun i hi=>by
    rw [List.getD_eq_getElem?_getD,List.getElem?_map,List.getD_eq_getElem?_getD,List.getElem?_eq_getElem hi]
    rfl
  show sd _ _ = _
  rw [id,id,g i hi,g j hj,h]
  rfl
noncomputable def dbl (P:List (Int × Int)):List (Int × Int):=P.flatMap fun p=>[p,p]
theorem dbl_app (P:List (Int × Int)) (q:Int × Int):dbl (P ++ [q]) = dbl P ++ [q] ++ [q]:=by
  unfold dbl
  rw [List.flatMap_append,List.append_assoc]
  rfl
theorem dbl_len:∀ P:List (Int × Int),(dbl P).length = 2 * P.length
  | []=>rfl
  | p :: r=>by
    show (p :: p :: dbl r).length = _
    rw [List.length_cons,List.length_cons,dbl_len r,List.length_cons]
    omega
theorem dbl_get:∀ (P:List (Int × Int)) (i:Nat),(dbl P).getD (2 * i) (0,0) = P.getD i (0,0) ∧ (dbl P).getD (2 * i + 1) (0,0) = P.getD i (0,0)
  | [],i=>⟨rfl,rfl⟩
  | p :: r,0=>⟨rfl,rfl⟩
  | p :: r,i + 1=>dbl_get r i
theorem rel_dbl (P:List (Int × Int)) (N:Nat):Rel P (dbl P) (2 * ·) 1 N:=fun i j _ _=>by
  show sd _ _ = _
  rw [(dbl_get P i).1,(dbl_get P j).1,Int.one_mul]
  rfl
theorem getD_pre {P:List (Int × Int)} {q:Int × Int} {i:Nat} (h:i < P.length):(P ++ [q]).getD i (0,0) = P.getD i (0,0):=by
  rw [List.getD_eq_getElem?_getD,List.getD_eq_getElem?_getD,List.getElem?_append_left h]
theorem rel_dbl1 (P:List (Int × Int)) (q:Int × Int):Rel (P ++ [q]) (dbl P ++ [q]) (2 * ·) 1 (P.length + 1):=fun i j hi hj=>by
  have l:(dbl P ++ [q]).length = 2 * P.length + 1:=by rw [List.length_append,dbl_len]; rfl
  have h:=rel_dbl (P ++ [q]) (P.length + 1) i j hi hj
  rw [dbl_app] at h
  rw [← h]
  unfold wy
  dsimp only
  rw [getD_pre (P:=dbl P ++ [q]) (by omega),getD_pre (P:=dbl P ++ [q]) (by omega)]
section
variable {m t k:Int} {P:List (Int × Int)} {c:List Nat} {b:Option (List Nat)}
theorem Wi.ne (h:Wi m P c k b) (h0:P ≠ []):c ≠ []:=by
  obtain ⟨o,ho,_⟩:=h.cov 0 (List.length_pos_iff.mpr h0)
  exact List.ne_nil_of_mem ho
theorem Wi.reach (h:Wi m P c k b) (h6:m ≤ 6) (hP:P.length < 900):∃ R,F_w_reach [wD m P c k b] = some (.int R) ∧ Mx ((List.range P.length).map (mn P c)) R:=by
  have:=h.le
  exact reach_eq hP h.lt (by omega) h.ne
theorem come_like (φ:Int × Int → Int × Int) (ht:0 < t) (hφ:∀ p q,sd (φ p) (φ q) = t * sd p q) (h1:1 ≤ m) (h6:m ≤ 6) (hP:P.length < 900) (q:Int × Int) (hc:∀ o ∈ c,o < P.length) (h:Wi m (P.map φ) c (t * k) b) {s:List Nat × Int × Option (List Nat)} (es:stepW m (P ++ [q]) P.length c k b = s) :
    Wi m ((P ++ [q]).map φ) s.1 (t * s.2.1) s.2.2 ∧ FR_w_come [wD m (P.map φ) c (t * k) b,.int (φ q).1,.int (φ q).2] = some (.int (P.length:Nat),wD m ((P ++ [q]).map φ) s.1 (t * s.2.1) s.2.2):=by
  have r:=rel_map φ hφ (P ++ [q])
  have l:(P ++ [q]).length = P.length + 1:=by rw [List.length_append]; rfl
  have lm:(P.map φ).length = P.length:=List.length_map _
  have s2:=step_rel (m:=m) (k:=k) (b:=b) (c:=c) r ht (n:=P.length) (by omega) fun o z=>by have:=hc o z; omega
  rw [es,List.map_id,List.map_id,show b.map (List.map id) = b by cases b with | none=>rfl | some e=>exact congrArg some (List.map_id e),show s.2.2.map (List.map id) = s.2.2 by cases s.2.2 with | none=>rfl | some e=>exact congrArg some (List.map_id e)] at s2
  have e:(P ++ [q]).map φ = P.map φ ++ [φ q]:=by rw [List.map_append]; rfl
  rw [e] at s2 ⊢
  obtain ⟨g1,_,g3⟩:=come_ok h h1 h6 (by omega) (φ q) (s:=(s.1,t * s.2.1,s.2.2)) (by rw [lm]; exact s2)
  rw [lm] at g3
  exact ⟨g1,g3⟩
theorem reach_like (φ:Int × Int → Int × Int) (ht:0 < t) (hφ:∀ p q,sd (φ p) (φ q) = t * sd p q) {R R2:Int} (hc:∀ o ∈ c,o < P.length) (h1:Mx ((List.range P.length).map (mn P c)) R) (h2:Mx ((List.range (P.map φ).length).map (mn (P.map φ) c)) R2):R2 = t * R:=by
  refine h2.uniq ?_
  have h3:=h1.mul ht
  rw [List.length_map]
  rw [List.map_map] at h3
  have e:(List.range P.length).map (mn (P.map φ) c) = (List.range P.length).map ((t * ·) ∘ mn P c):=List.map_congr_left fun n hn=>by
    have:=mn_rel (rel_map φ hφ P) ht hc (List.mem_range.mp hn)
    rw [List.map_id] at this
    exact this
  rw [e]
  exact h3
theorem come_twice (h1:1 ≤ m) (h6:m ≤ 6) (hP:P.length < 400) (q:Int × Int) (hc:∀ o ∈ c,o < P.length) (h:Wi m (dbl P) (c.map (2 * ·)) k (b.map (List.map (2 * ·)))) {s:List Nat × Int × Option (List Nat)} (es:stepW m (P ++ [q]) P.length c k b = s) :
    ∃ d,Wi m (dbl (P ++ [q])) (s.1.map (2 * ·)) s.2.1 (s.2.2.map (List.map (2 * ·))) ∧ (∃ r,FR_w_come [wD m (dbl P) (c.map (2 * ·)) k (b.map (List.map (2 * ·))),.int q.1,.int q.2] = some (r,d)) ∧ fdsD d ≠ none ∧ ∃ r,FR_w_come [d,.int q.1,.int q.2] = some (r,wD m (dbl (P ++ [q])) (s.1.map (2 * ·)) s.2.1 (s.2.2.map (List.map (2 * ·)))):=by
  have dl:=dbl_len P
  have s2:=step_rel (m:=m) (k:=k) (b:=b) (c:=c) (rel_dbl1 P q) (by decide) (n:=P.length) (by omega) fun o z=>by have:=hc o z; omega
  rw [es,Int.one_mul,Int.one_mul] at s2
  obtain ⟨g1,⟨o,ho,g2⟩,g3⟩:=come_ok h h1 h6 (by omega) q (s:=(s.1.map (2 * ·),s.2.1,s.2.2.map (List.map (2 * ·)))) (by rw [dl]; exact s2)
  dsimp only at g1 g2 g3 ho
  have l1:(dbl P ++ [q]).length = 2 * P.length + 1:=by rw [List.length_append,dl]; rfl
  have ol:=g1.lt o ho
  have nf:¬ isFar (dbl P ++ [q] ++ [q]) s.2.1 (dbl P ++ [q]).length (s.1.map (2 * ·)) = true:=fun z=>by
    have z2:=far_iff.mp z o ho
    have e1:wy (dbl P ++ [q] ++ [q]) (dbl P ++ [q]).length o = wy (dbl P ++ [q]) (dbl P).length o:=by
      unfold wy
      rw [getD_pre (P:=dbl P ++ [q]) ol]
      congr 1
      rw [List.getD_eq_getElem?_getD,List.getElem?_append_right (Nat.le_refl _),Nat.sub_self,List.getD_eq_getElem?_getD,List.getElem?_append_right (Nat.le_refl _),Nat.sub_self]
    omega
  have s3:stepW m (dbl P ++ [q] ++ [q]) (dbl P ++ [q]).length (s.1.map (2 * ·)) s.2.1 (s.2.2.map (List.map (2 * ·))) = (s.1.map (2 * ·),s.2.1,s.2.2.map (List.map (2 * ·))):=by
    have ad:addW (dbl P ++ [q] ++ [q]) (dbl P ++ [q]).length (s.1.map (2 * ·)) s.2.1 = s.1.map (2 * ·):=if_neg nf
    unfold stepW
    rw [ad,if_pos g1.le]
  obtain ⟨g4,_,g5⟩:=come_ok g1 h1 h6 (by omega) q s3
  rw [← dbl_app] at g4 g5
  exact ⟨_,g4,⟨_,g3⟩,(fun z=>by cases z),_,g5⟩
theorem reach_twice {R R2:Int} (hc:∀ o ∈ c,o < P.length) (h1:Mx ((List.range P.length).map (mn P c)) R) (h2:Mx ((List.range (dbl P).length).map (mn (dbl P) (c.map (2 * ·)))) R2):R2 = R:=by
  refine h2.uniq ?_
  have ev:∀ i,i < P.length → mn (dbl P) (c.map (2 * ·)) (2 * i) = mn P c i:=fun i hi=>by
    have:=mn_rel (rel_dbl P P.length) (by decide) hc hi
    rw [Int.one_mul] at this
    exact this
  have od:∀ i,mn (dbl P) (c.map (2 * ·)) (2 * i + 1) = mn (dbl P) (c.map (2 * ·)) (2 * i):=fun i=>by
    have:wy (dbl P) (2 * i + 1) = wy (dbl P) (2 * i):=funext fun o=>by
      unfold wy
      rw [(dbl_get P i).1,(dbl_get P i).2]
    unfold mn
    rw [this]
  have dl:=dbl_len P
  refine ⟨h1.nn,?_,fun x hx=>?_⟩
  · rcases h1.mem with z | z
    · exact .inl z
    · obtain ⟨i,hi,e⟩:=List.mem_map.mp z
      have hi:=List.mem_range.mp hi
      exact .inr (List.mem_map.mpr ⟨2 * i,List.mem_range.mpr (by omega),(ev i hi).trans e⟩)
  · obtain ⟨j,hj,rfl⟩:=List.mem_map.mp hx
    have hj:=List.mem_range.mp hj
    have hi:j / 2 < P.length:=by omega
    have e:mn (dbl P) (c.map (2 * ·)) j = mn P c (j / 2):=by
      rcases Nat.mod_two_eq_zero_or_one j with z | z
      · rw [show j = 2 * (j / 2) by omega,ev _ (by omega)]
        congr 1
        omega
      · rw [show j = 2 * (j / 2) + 1 by omega,od,ev _ (by omega)]
        congr 1
        omega
    rw [e]
    exact h1.le _ (List.mem_map_of_mem (List.mem_range.mpr hi))
theorem places_twice (P:List (Int × Int)) (c:List Nat):(c.map (2 * ·)).map (fun o=>(dbl P).getD o (0,0)) = c.map fun o=>P.getD o (0,0):=by
  rw [List.map_map]
  exact List.map_congr_left fun o _=>(dbl_get P o).1
end
noncomputable def f1 (u v:Int) (p:Int × Int):Int × Int:=(p.1 + u,p.2 + v)
noncomputable def f2 (s r:Int) (p:Int × Int):Int × Int:=(s * p.2,r * p.1)
noncomputable def f3 (t:Int) (p:Int × Int):Int × Int:=(t * p.1,t * p.2)
theorem f1_sd (u v:Int) (p q:Int × Int):sd (f1 u v p) (f1 u v q) = 1 * sd p q:=by
  rw [sd_is,sd_is,f1,f1]
  dsimp only
  omega
theorem f2_sd {s r:Int} (hs:s = 1 ∨ s = -1) (hr:r = 1 ∨ r = -1) (p q:Int × Int):sd (f2 s r p) (f2 s r q) = 1 * sd p q:=by
  rw [sd_is,sd_is,f2,f2]
  dsimp only
  rcases hs with rfl | rfl <;> rcases hr with rfl | rfl <;> omega
theorem aI_mul {t:Int} (h:0 < t) (i:Int):aI (t * i) = t * aI i:=by
  unfold aI
  by_cases z:i < 0
  · rw [if_pos z,if_pos (Int.mul_neg_of_pos_of_neg h z),Int.mul_neg]
  · rw [if_neg z,if_neg fun y=>absurd (Int.mul_nonneg (show 0 ≤ t by omega) (show 0 ≤ i by omega)) (by omega)]
theorem f3_sd {t:Int} (h:0 < t) (p q:Int × Int):sd (f3 t p) (f3 t q) = t * sd p q:=by
  unfold sd f3
  dsimp only
  rw [← Int.mul_sub,← Int.mul_sub,aI_mul h,aI_mul h]
  by_cases z:aI (p.2 - q.2) > aI (p.1 - q.1)
  · rw [if_pos z,if_pos (Int.mul_lt_mul_of_pos_left z h)]
  · rw [if_neg z,if_neg fun y=>z (Int.lt_of_mul_lt_mul_left y (by omega))]
structure Five (m u v t s r:Int) (P:List (Int × Int)) (c:List Nat) (k:Int) (b:Option (List Nat)):Prop where
  w0:Wi m P c k b
  w1:Wi m (P.map (f1 u v)) c (1 * k) b
  w2:Wi m (P.map (f2 s r)) c (1 * k) b
  w3:Wi m (P.map (f3 t)) c (t * k) b
  w4:Wi m (dbl P) (c.map (2 * ·)) k (b.map (List.map (2 * ·)))
noncomputable def five (m u v t s r:Int) (P:List (Int × Int)) (c:List Nat) (k:Int) (b:Option (List Nat)):List PyData:=
  [wD m P c k b,wD m (P.map (f1 u v)) c (1 * k) b,wD m (P.map (f2 s r)) c (1 * k) b,wD m (P.map (f3 t)) c (t * k) b,wD m (dbl P) (c.map (2 * ·)) k (b.map (List.map (2 * ·)))]
theorem mi_eq {ρ:Rho} {ws:List PyData} {i:Int} {j:Nat} {d0 d' r:PyData} {ds:List PyData} {fs:Rho → Option (List PyData)} (h1:(ρ[3]?).join = some (.list ws)) (hi:ixN ws.length i = some j) (hj:ws[j]? = some d0) (hf:fdsD d0 ≠ none) (h2:fs ρ = some ds) (h3:FR_w_come (d0 :: ds) = some (r,d')):methIx 3 (fun _=>some (.int i)) FR_w_come fs ρ = some (.nx (ρ.set 3 (some (.list (ws.set j d'))))):=by
  unfold methIx
  rw [h1]
  show ((some ws).bind _) = _
  rw [Option.bind_some]
  show ((some i).bind _) = _
  rw [Option.bind_some,hi,Option.bind_some,hj,Option.bind_some]
  cases e:fdsD d0 with
  | none=>exact absurd e hf
  | some l=>
    rw [Option.bind_some,h2,Option.bind_some,h3]
    rfl
theorem turn_ok {m u v t s r k:Int} {P:List (Int × Int)} {c:List Nat} {b:Option (List Nat)} (h:Five m u v t s r P c k b) (h1:1 ≤ m) (h6:m ≤ 6) (hP:P.length < 300) (ht:0 < t) (ht2:t < 1000) (hs:s = 1 ∨ s = -1) (hr:r = 1 ∨ r = -1) {ps:List Int} (hp:2 ≤ ps.length) (hd:dgOk ps) (x0 x8 x9 x10 x11:Option PyData) :
    ∃ q c' k' b' y9 y10 y11,Five m u v t s r (P ++ [q]) c' k' b' ∧ L_law_1 [x0,some (.list (ps.map .int)),some (.int m),some (.list (five m u v t s r P c k b)),some (.int u),some (.int v),some (.int t),some (.list [.int s,.int r]),x8,x9,x10,x11] =
      some (.nx [x0,some (.list (ps.dropLast.dropLast.map .int)),some (.int m),some (.list (five m u v t s r (P ++ [q]) c' k' b')),some (.int u),some (.int v),some (.int t),some (.list [.int s,.int r]),x8,y9,y10,y11]):=by
  obtain ⟨q,e⟩:=place_eq hp hd
  generalize es:stepW m (P ++ [q]) P.length c k b = S
  have hc:=h.w0.lt
  have L1:(P ++ [q]).length = P.length + 1:=by rw [List.length_append,List.length_singleton]
  obtain ⟨W0,_,e0⟩:=come_ok h.w0 h1 h6 (by omega) q es
  obtain ⟨W1,e1⟩:=come_like (f1 u v) (by decide) (f1_sd u v) h1 h6 (by omega) q hc h.w1 es
  obtain ⟨W2,e2⟩:=come_like (f2 s r) (by decide) (f2_sd hs hr) h1 h6 (by omega) q hc h.w2 es
  obtain ⟨W3,e3⟩:=come_like (f3 t) ht (f3_sd ht) h1 h6 (by omega) q hc h.w3 es
  obtain ⟨d4,W4,⟨r4,e4⟩,hd4,r5,e5⟩:=come_twice h1 h6 (by omega) q hc h.w4 es
  obtain ⟨R,er,M⟩:=W0.reach h6 (by omega)
  obtain ⟨R1,er1,M1⟩:=W1.reach h6 (by rw [List.length_map]; omega)
  obtain ⟨R2,er2,M2⟩:=W2.reach h6 (by rw [List.length_map]; omega)
  obtain ⟨R3,er3,M3⟩:=W3.reach h6 (by rw [List.length_map]; omega)
  obtain ⟨R4,er4,M4⟩:=W4.reach h6 (by rw [dbl_len]; omega)
  obtain rfl:=reach_like (f1 u v) (by decide) (f1_sd u v) W0.lt M M1
  obtain rfl:=reach_like (f2 s r) (by decide) (f2_sd hs hr) W0.lt M M2
  obtain rfl:=reach_like (f3 t) ht (f3_sd ht) W0.lt M M3
  obtain rfl:=reach_twice W0.lt M M4
  have cl:=W0.le
  obtain ⟨c',k',b'⟩:=S
  dsimp only at W0 W1 W2 W3 W4 e0 e1 e2 e3 e4 e5 er er1 er2 er3 er4 cl
  have b1:(1:Int).natAbs < 2 ^ 63:=by decide
  have b2:t.natAbs < 2 ^ 63:=by omega
  have t0:F_l_told [wD m (P ++ [q]) c' k' b',.int 1] = some (.list [encN c',encB b',.int k',.int R4]):=(told_eq er b1).trans (by rw [Int.mul_one,Int.mul_one])
  have t1:F_l_told [wD m ((P ++ [q]).map (f1 u v)) c' (1 * k') b',.int 1] = some (.list [encN c',encB b',.int k',.int R4]):=(told_eq er1 b1).trans (by rw [Int.mul_one,Int.mul_one,Int.one_mul,Int.one_mul])
  have t2:F_l_told [wD m ((P ++ [q]).map (f2 s r)) c' (1 * k') b',.int 1] = some (.list [encN c',encB b',.int k',.int R4]):=(told_eq er2 b1).trans (by rw [Int.mul_one,Int.mul_one,Int.one_mul,Int.one_mul])
  have t3:F_l_told [wD m ((P ++ [q]).map (f3 t)) c' (t * k') b',.int 1] = some (.list [encN c',encB b',.int (t * k'),.int (t * R4)]):=(told_eq er3 b1).trans (by rw [Int.mul_one,Int.mul_one])
  have t0t:=told_eq er b2
  have p0:=places_eq er W0.lt (by omega)
  have p4:=places_eq er4 W4.lt (by rw [List.length_map]; omega)
  rw [places_twice] at p4
  rw [Int.mul_comm k' t,Int.mul_comm R4 t] at t0t
  refine ⟨q,c',k',b',some (.int q.1),some (.int q.2),some (.list [encN c',encB b',.int k',.int R4]),⟨W0,W1,W2,W3,W4⟩,?_⟩
  unfold L_law_1
  rw [seqF_nx (ρ':=[x0,some (.list (ps.dropLast.dropLast.map .int)),some (.int m),some (.list (five m u v t s r P c k b)),some (.int u),some (.int v),some (.int t),some (.list [.int s,.int r]),x8,some (.int q.1),some (.int q.2),x11]) ?s1]
  case s1=>
    show asgX _ ((FI_l_place [.list (ps.map .int)]).map fun z=>(z.1,[x0,some (.list z.2),some (.int m),some (.list (five m u v t s r P c k b)),some (.int u),some (.int v),some (.int t),some (.list [.int s,.int r]),x8,x9,x10,x11])) = _
    rw [e]
    rfl
  rw [seqF_nx (ρ':=[x0,some (.list (ps.dropLast.dropLast.map .int)),some (.int m),some (.list [wD m (P ++ [q]) c' k' b',wD m (P.map (f1 u v)) c (1 * k) b,wD m (P.map (f2 s r)) c (1 * k) b,wD m (P.map (f3 t)) c (t * k) b,wD m (dbl P) (c.map (2 * ·)) k (b.map (List.map (2 * ·)))]),some (.int u),some (.int v),some (.int t),some (.list [.int s,.int r]),x8,some (.int q.1),some (.int q.2),x11]) ?m0]
  case m0=>refine mi_eq (ws:=[wD m P c k b,wD m (P.map (f1 u v)) c (1 * k) b,wD m (P.map (f2 s r)) c (1 * k) b,wD m (P.map (f3 t)) c (t * k) b,wD m (dbl P) (c.map (2 * ·)) k (b.map (List.map (2 * ·)))]) (j:=0) (ds:=[.int q.1,.int q.2]) rfl rfl rfl (fun z=>by cases z) rfl e0
  rw [seqF_nx (ρ':=[x0,some (.list (ps.dropLast.dropLast.map .int)),some (.int m),some (.list [wD m (P ++ [q]) c' k' b',wD m ((P ++ [q]).map (f1 u v)) c' (1 * k') b',wD m (P.map (f2 s r)) c (1 * k) b,wD m (P.map (f3 t)) c (t * k) b,wD m (dbl P) (c.map (2 * ·)) k (b.map (List.map (2 * ·)))]),some (.int u),some (.int v),some (.int t),some (.list [.int s,.int r]),x8,some (.int q.1),some (.int q.2),x11]) ?m1]
  case m1=>refine mi_eq (ws:=[wD m (P ++ [q]) c' k' b',wD m (P.map (f1 u v)) c (1 * k) b,wD m (P.map (f2 s r)) c (1 * k) b,wD m (P.map (f3 t)) c (t * k) b,wD m (dbl P) (c.map (2 * ·)) k (b.map (List.map (2 * ·)))]) (j:=1) (ds:=[.int (f1 u v q).1,.int (f1 u v q).2]) rfl rfl rfl (fun z=>by cases z) rfl e1
  rw [seqF_nx (ρ':=[x0,some (.list (ps.dropLast.dropLast.map .int)),some (.int m),some (.list [wD m (P ++ [q]) c' k' b',wD m ((P ++ [q]).map (f1 u v)) c' (1 * k') b',wD m ((P ++ [q]).map (f2 s r)) c' (1 * k') b',wD m (P.map (f3 t)) c (t * k) b,wD m (dbl P) (c.map (2 * ·)) k (b.map (List.map (2 * ·)))]),some (.int u),some (.int v),some (.int t),some (.list [.int s,.int r]),x8,some (.int q.1),some (.int q.2),x11]) ?m2]
  case m2=>refine mi_eq (ws:=[wD m (P ++ [q]) c' k' b',wD m ((P ++ [q]).map (f1 u v)) c' (1 * k') b',wD m (P.map (f2 s r)) c (1 * k) b,wD m (P.map (f3 t)) c (t * k) b,wD m (dbl P) (c.map (2 * ·)) k (b.map (List.map (2 * ·)))]) (j:=2) (ds:=[.int (f2 s r q).1,.int (f2 s r q).2]) rfl rfl rfl (fun z=>by cases z) (by show consD (bind2 (some (.int s)) (some (.int q.2)) mulD) (consD (bind2 (some (.int r)) (some (.int q.1)) mulD) (some [])) = _; rw [bind2_ss,bind2_ss,mulD_s1 (a:=s) (by rcases hs with z | z <;> omega),mulD_s1 (a:=r) (by rcases hr with z | z <;> omega)]; rfl) e2
  rw [seqF_nx (ρ':=[x0,some (.list (ps.dropLast.dropLast.map .int)),some (.int m),some (.list [wD m (P ++ [q]) c' k' b',wD m ((P ++ [q]).map (f1 u v)) c' (1 * k') b',wD m ((P ++ [q]).map (f2 s r)) c' (1 * k') b',wD m ((P ++ [q]).map (f3 t)) c' (t * k') b',wD m (dbl P) (c.map (2 * ·)) k (b.map (List.map (2 * ·)))]),some (.int u),some (.int v),some (.int t),some (.list [.int s,.int r]),x8,some (.int q.1),some (.int q.2),x11]) ?m3]
  case m3=>refine mi_eq (ws:=[wD m (P ++ [q]) c' k' b',wD m ((P ++ [q]).map (f1 u v)) c' (1 * k') b',wD m ((P ++ [q]).map (f2 s r)) c' (1 * k') b',wD m (P.map (f3 t)) c (t * k) b,wD m (dbl P) (c.map (2 * ·)) k (b.map (List.map (2 * ·)))]) (j:=3) (ds:=[.int (f3 t q).1,.int (f3 t q).2]) rfl rfl rfl (fun z=>by cases z) (by show consD (bind2 (some (.int t)) (some (.int q.1)) mulD) (consD (bind2 (some (.int t)) (some (.int q.2)) mulD) (some [])) = _; rw [bind2_ss,bind2_ss,mulD_s1 (a:=t) b2,mulD_s1 (a:=t) b2]; rfl) e3
  rw [seqF_nx (ρ':=[x0,some (.list (ps.dropLast.dropLast.map .int)),some (.int m),some (.list [wD m (P ++ [q]) c' k' b',wD m ((P ++ [q]).map (f1 u v)) c' (1 * k') b',wD m ((P ++ [q]).map (f2 s r)) c' (1 * k') b',wD m ((P ++ [q]).map (f3 t)) c' (t * k') b',d4]),some (.int u),some (.int v),some (.int t),some (.list [.int s,.int r]),x8,some (.int q.1),some (.int q.2),x11]) ?m4]
  case m4=>refine mi_eq (ws:=[wD m (P ++ [q]) c' k' b',wD m ((P ++ [q]).map (f1 u v)) c' (1 * k') b',wD m ((P ++ [q]).map (f2 s r)) c' (1 * k') b',wD m ((P ++ [q]).map (f3 t)) c' (t * k') b',wD m (dbl P) (c.map (2 * ·)) k (b.map (List.map (2 * ·)))]) (j:=4) (ds:=[.int q.1,.int q.2]) rfl rfl rfl (fun z=>by cases z) rfl e4
  rw [seqF_nx (ρ':=[x0,some (.list (ps.dropLast.dropLast.map .int)),some (.int m),some (.list [wD m (P ++ [q]) c' k' b',wD m ((P ++ [q]).map (f1 u v)) c' (1 * k') b',wD m ((P ++ [q]).map (f2 s r)) c' (1 * k') b',wD m ((P ++ [q]).map (f3 t)) c' (t * k') b',wD m (dbl (P ++ [q])) (c'.map (2 * ·)) k' (b'.map (List.map (2 * ·)))]),some (.int u),some (.int v),some (.int t),some (.list [.int s,.int r]),x8,some (.int q.1),some (.int q.2),x11]) ?m5]
  case m5=>refine mi_eq (ws:=[wD m (P ++ [q]) c' k' b',wD m ((P ++ [q]).map (f1 u v)) c' (1 * k') b',wD m ((P ++ [q]).map (f2 s r)) c' (1 * k') b',wD m ((P ++ [q]).map (f3 t)) c' (t * k') b',d4]) (j:=4) (ds:=[.int q.1,.int q.2]) rfl rfl rfl hd4 rfl e5
  rw [seqF_nx (ρ':=[x0,some (.list (ps.dropLast.dropLast.map .int)),some (.int m),some (.list [wD m (P ++ [q]) c' k' b',wD m ((P ++ [q]).map (f1 u v)) c' (1 * k') b',wD m ((P ++ [q]).map (f2 s r)) c' (1 * k') b',wD m ((P ++ [q]).map (f3 t)) c' (t * k') b',wD m (dbl (P ++ [q])) (c'.map (2 * ·)) k' (b'.map (List.map (2 * ·)))]),some (.int u),some (.int v),some (.int t),some (.list [.int s,.int r]),x8,some (.int q.1),some (.int q.2),some (.list [encN c',encB b',.int k',.int R4])]) ?d0]
  case d0=>
    show setO 11 _ (F_l_told [wD m (P ++ [q]) c' k' b',.int 1]) = _
    rw [t0]
    rfl
  rw [seqF_nx (ρ':=[x0,some (.list (ps.dropLast.dropLast.map .int)),some (.int m),some (.list [wD m (P ++ [q]) c' k' b',wD m ((P ++ [q]).map (f1 u v)) c' (1 * k') b',wD m ((P ++ [q]).map (f2 s r)) c' (1 * k') b',wD m ((P ++ [q]).map (f3 t)) c' (t * k') b',wD m (dbl (P ++ [q])) (c'.map (2 * ·)) k' (b'.map (List.map (2 * ·)))]),some (.int u),some (.int v),some (.int t),some (.list [.int s,.int r]),x8,some (.int q.1),some (.int q.2),some (.list [encN c',encB b',.int k',.int R4])]) ?d1]
  case d1=>
    show condO (orB (testD (bind2 (F_l_told [wD m ((P ++ [q]).map (f1 u v)) c' (1 * k') b',.int 1]) (some (.list [encN c',encB b',.int k',.int R4])) neD)) (testD (bind2 (F_l_told [wD m ((P ++ [q]).map (f2 s r)) c' (1 * k') b',.int 1]) (some (.list [encN c',encB b',.int k',.int R4])) neD))) _ _ = _
    rw [t1,t2,bind2_ss,ne_told]
    rfl
  rw [seqF_nx (ρ':=[x0,some (.list (ps.dropLast.dropLast.map .int)),some (.int m),some (.list [wD m (P ++ [q]) c' k' b',wD m ((P ++ [q]).map (f1 u v)) c' (1 * k') b',wD m ((P ++ [q]).map (f2 s r)) c' (1 * k') b',wD m ((P ++ [q]).map (f3 t)) c' (t * k') b',wD m (dbl (P ++ [q])) (c'.map (2 * ·)) k' (b'.map (List.map (2 * ·)))]),some (.int u),some (.int v),some (.int t),some (.list [.int s,.int r]),x8,some (.int q.1),some (.int q.2),some (.list [encN c',encB b',.int k',.int R4])]) ?d2]
  case d2=>
    show condO (testD (bind2 (F_l_told [wD m ((P ++ [q]).map (f3 t)) c' (t * k') b',.int 1]) (F_l_told [wD m (P ++ [q]) c' k' b',.int t]) neD)) _ _ = _
    rw [t3,t0t,bind2_ss,ne_told]
    rfl
  show condO (testD (bind2 (F_l_places [wD m (dbl (P ++ [q])) (c'.map (2 * ·)) k' (b'.map (List.map (2 * ·)))]) (F_l_places [wD m (P ++ [q]) c' k' b']) neD)) _ _ = _
  rw [p4,p0,bind2_ss,ne_places]
  rfl
theorem law_loop {m u v t s r:Int} (h1:1 ≤ m) (h6:m ≤ 6) (ht:0 < t) (ht2:t < 1000) (hs:s = 1 ∨ s = -1) (hr:r = 1 ∨ r = -1) (x0:Option PyData):∀ (ds:List PyData) (P:List (Int × Int)) (c:List Nat) (k:Int) (b:Option (List Nat)) (ps:List Int),Five m u v t s r P c k b → dgOk ps → P.length + ds.length < 300 → 2 * ds.length ≤ ps.length → ∀ x8 x9 x10 x11,∃ ρ':Rho,
    forD (setS 8) L_law_1 ds [x0,some (.list (ps.map .int)),some (.int m),some (.list (five m u v t s r P c k b)),some (.int u),some (.int v),some (.int t),some (.list [.int s,.int r]),x8,x9,x10,x11] = some (.nx ρ')
  | [],P,c,k,b,ps,_,_,_,_,x8,x9,x10,x11=>⟨_,rfl⟩
  | d :: rest,P,c,k,b,ps,W,hd,hP,hp,x8,x9,x10,x11=>by
    rw [List.length_cons] at hP hp
    obtain ⟨q,c',k',b',y9,y10,y11,W',e⟩:=turn_ok W h1 h6 (by omega) ht ht2 hs hr (ps:=ps) (by omega) hd x0 (some d) x9 x10 x11
    obtain ⟨ρ',e2⟩:=law_loop h1 h6 ht ht2 hs hr x0 rest (P ++ [q]) c' k' b' ps.dropLast.dropLast W' (dg_drop (dg_drop hd)) (by rw [List.length_append,List.length_singleton]; omega) (by rw [List.length_dropLast,List.length_dropLast]; omega) (some d) y9 y10 y11
    refine ⟨ρ',?_⟩
    show (L_law_1 [x0,some (.list (ps.map .int)),some (.int m),some (.list (five m u v t s r P c k b)),some (.int u),some (.int v),some (.int t),some (.list [.int s,.int r]),some d,x9,x10,x11]).bind _ = _
    rw [e]
    exact e2
theorem five_nil (m u v t s r:Int):five m u v t s r [] [] 0 none = [wD m [] [] 0 none,wD m [] [] 0 none,wD m [] [] 0 none,wD m [] [] 0 none,wD m [] [] 0 none]:=by
  unfold five
  rw [Int.mul_zero,Int.mul_zero]
  rfl
theorem Five.nil {m:Int} (h:0 ≤ m) (u v t s r:Int):Five m u v t s r [] [] 0 none:=by
  have w:=Wi.nil h
  exact ⟨w,by rw [Int.mul_zero]; exact w,by rw [Int.mul_zero]; exact w,by rw [Int.mul_zero]; exact w,w⟩
theorem sign_is {d:Int}:∃ s,(s = 1 ∨ s = -1) ∧ ixD (.list [.int 1,.int (-1)]) (.int (d % 2)) = some (.int s):=by
  rcases (show d % 2 = 0 ∨ d % 2 = 1 by omega) with h | h
  · exact ⟨1,.inl rfl,by rw [h]; rfl⟩
  · exact ⟨-1,.inr rfl,by rw [h]; rfl⟩
theorem main (ns:List Int) (hl:ns.length ≤ 63):F_law [.list (ns.map .int)] = some (.bool true):=by
  obtain ⟨ds,dl,dg,ed⟩:=digits_eq ns 0 hl (by decide)
  obtain ⟨es,el,eg,ee⟩:=digits_eq ns 1 hl (by decide)
  obtain ⟨q,eq⟩:=place_eq (ps:=es) (by omega) eg
  obtain ⟨n1,l1⟩:=drop_ne (k:=119) dl
  obtain ⟨n2,l2⟩:=drop_ne (k:=118) l1
  obtain ⟨n3,l3⟩:=drop_ne (k:=117) l2
  obtain ⟨n4,l4⟩:=drop_ne (k:=116) l3
  obtain ⟨n5,l5⟩:=drop_ne (k:=115) l4
  have g1:=dg_drop dg
  have g2:=dg_drop g1
  have g3:=dg_drop g2
  have g4:=dg_drop g3
  have g5:=dg_drop g4
  obtain ⟨m,hm,h1,h6⟩:∃ m,m = 1 + ds.getLast n1 % 5 ∧ 1 ≤ m ∧ m ≤ 6:=⟨_,rfl,by omega,by omega⟩
  obtain ⟨t,ht,t0,t1⟩:∃ t,t = 2 + ds.dropLast.getLast n2 % 99 ∧ 0 < t ∧ t < 1000:=⟨_,rfl,by omega,by omega⟩
  obtain ⟨s,hs,es1⟩:=sign_is (d:=ds.dropLast.dropLast.getLast n3)
  obtain ⟨r,hr,es2⟩:=sign_is (d:=ds.dropLast.dropLast.dropLast.getLast n4)
  obtain ⟨n,hn,a0,a1⟩:∃ n,n = ds.dropLast.dropLast.dropLast.dropLast.getLast n5 % 31 ∧ 0 ≤ n ∧ n ≤ 30:=⟨_,rfl,by omega,by omega⟩
  obtain ⟨ρ',e⟩:=law_loop (u:=q.1) (v:=q.2) h1 h6 t0 t1 hs hr (some (.list (ns.map .int))) (rngL 0 n.toNat) [] [] 0 none ds.dropLast.dropLast.dropLast.dropLast.dropLast (Five.nil (by omega) _ _ _ _ _) g5 (by rw [rl_len,List.length_nil]; omega) (by rw [rl_len,l5]; omega) none none none none
  rw [five_nil] at e
  have b:B_law [some (.list (ns.map .int)),none,none,none,none,none,none,none,none,none,none,none] = some (.rt (.bool true)):=by
    unfold B_law
    rw [seqF_nx (ρ':=[some (.list (ns.map .int)),some (.list (ds.map .int)),none,none,none,none,none,none,none,none,none,none]) ?s1]
    case s1=>
      show setO 1 _ (F_l_digits [.list (ns.map .int),.int ((0:Nat):Int),.int 2]) = _
      rw [ed]
      rfl
    rw [seqF_nx (ρ':=[some (.list (ns.map .int)),some (.list (ds.dropLast.map .int)),some (.int m),none,none,none,none,none,none,none,none,none]) ?s2]
    case s2=>
      unfold opR
      dsimp only
      rw [Option.bind_some,pop_mod n1 (m:=5) (by decide) rfl rfl,hm]
      rfl
    rw [seqF_nx (ρ':=[some (.list (ns.map .int)),some (.list (ds.dropLast.map .int)),some (.int m),some (.list [wD m [] [] 0 none,wD m [] [] 0 none,wD m [] [] 0 none,wD m [] [] 0 none,wD m [] [] 0 none]),none,none,none,none,none,none,none,none]) ?s3]
    case s3=>
      show setO 3 _ ((compO (setS 0) (fun _=>some true) E_law_0 (rng1D [.int 5]) [none,some (.int m)]).map .list) = _
      rw [rng1_ok (by decide) (by decide),compO_s (by decide),show rngL 0 (Int.toNat 5) = ([0,1,2,3,4]:List Int).map PyData.int from rfl,compD_map (S:=setS 0) (fe:=E_law_0) PyData.int id (fun _=>wD m [] [] 0 none) (fun ρ=>∃ a,ρ = [a,some (.int m)]) (fun _=>True) (fun x ρ _ ⟨a,e⟩=>⟨[some (.int x),some (.int m)],by rw [e]; rfl,⟨_,rfl⟩,init_eq h1⟩) [0,1,2,3,4] [none,some (.int m)] ⟨_,rfl⟩ (fun _ _=>trivial)]
      rfl
    rw [seqF_nx (ρ':=[some (.list (ns.map .int)),some (.list (ds.dropLast.map .int)),some (.int m),some (.list [wD m [] [] 0 none,wD m [] [] 0 none,wD m [] [] 0 none,wD m [] [] 0 none,wD m [] [] 0 none]),some (.int q.1),some (.int q.2),none,none,none,none,none,none]) ?s4]
    case s4=>
      show asgO _ _ (callN FI_l_place ((F_l_digits [.list (ns.map .int),.int ((1:Nat):Int),.int 2]).bind listD) (some [])) = _
      rw [ee]
      show asgO _ _ ((FI_l_place [.list (es.map .int)]).map (·.1)) = _
      rw [eq]
      rfl
    rw [seqF_nx (ρ':=[some (.list (ns.map .int)),some (.list (ds.dropLast.dropLast.map .int)),some (.int m),some (.list [wD m [] [] 0 none,wD m [] [] 0 none,wD m [] [] 0 none,wD m [] [] 0 none,wD m [] [] 0 none]),some (.int q.1),some (.int q.2),some (.int t),none,none,none,none,none]) ?s5]
    case s5=>
      unfold opR
      dsimp only
      rw [Option.bind_some,pop_mod n2 (m:=99) (by decide) rfl rfl,ht]
      rfl
    rw [seqF_nx (ρ':=[some (.list (ns.map .int)),some (.list (ds.dropLast.dropLast.dropLast.dropLast.map .int)),some (.int m),some (.list [wD m [] [] 0 none,wD m [] [] 0 none,wD m [] [] 0 none,wD m [] [] 0 none,wD m [] [] 0 none]),some (.int q.1),some (.int q.2),some (.int t),some (.list [.int s,.int r]),none,none,none,none]) ?s6]
    case s6=>
      have sg:∀ {ps:List Int} (hp:ps ≠ []) {z:Int} {ρ:Rho},(ρ[1]?).join = some (.list (ps.map .int)) → ixD (.list [.int 1,.int (-1)]) (.int (ps.getLast hp % 2)) = some (.int z) → opR ixD (fun ρ=>(shortL (consD (some (.int 1)) (consD ((some (.int 1)).bind negD) (some [])))).map .list) (opL modD (popD 1) (fun ρ=>some (.int 2))) ρ = some (.int z,ρ.set 1 (some (.list (ps.dropLast.map .int)))):=fun {ps} hp {z ρ} h1 h2=>by
        unfold opR
        show (some (PyData.list [.int 1,.int (-1)])).bind _ = _
        rw [Option.bind_some,pop_mod hp (m:=2) (by decide) h1 rfl,Option.bind_some]
        show (ixD (.list [.int 1,.int (-1)]) (.int (ps.getLast hp % 2))).map _ = _
        rw [h2]
        rfl
      unfold lstX consX
      rw [sg n3 rfl es1,Option.bind_some]
      dsimp only
      rw [sg n4 rfl es2]
      rfl
    rw [seqF_nx (ρ':=ρ') ?s7]
    case s7=>
      unfold forEff
      rw [pop_mod n5 (m:=31) (by decide) rfl rfl,Option.bind_some,← hn]
      show (rng1D [.int n]).bind _ = _
      rw [rng1_ok a0 (by omega),Option.bind_some]
      exact e
    rfl
  show outD (B_law [some (.list (ns.map .int)),none,none,none,none,none,none,none,none,none,none,none]) = _
  rw [b]
  rfl
end NW
namespace NW
open PySem PySem.Spec PyProof.Rows L2
structure Txt (mg:Str → Option Value):Prop where
  m_abs:mg "abs" = none
  m_all:mg "all" = none
  m_enumerate:mg "enumerate" = none
  m_int:mg "int" = none
  m_len:mg "len" = none
  m_list:mg "list" = none
  m_max:mg "max" = none
  m_min:mg "min" = none
  m_range:mg "range" = none
  m_reversed:mg "reversed" = none
  m_sum:mg "sum" = none
section
variable {P:Program} {w:World} {K:PySem.W.Frag} {mg:Str → Option Value} {base:Heap}
theorem sc_l_digits:FnScope ["_law_script","_law_at","_law_parts","_law_unit","_law_found","_law_first","_law_rest","_law_k"] ["_law_script","_law_at","_law_parts"] (defScope s_l_digits):=⟨rfl,rfl,rfl,by decide +kernel,rfl,by decide +kernel,by decide +kernel⟩
theorem nd_l_digits_0:(["_law_k","_law_script"]:List Str).Nodup:=by decide +kernel
theorem ok_l_digits {f:Addr} {fd:FuncData} (F:Fun K "_law_digits" ("_law_digits") s_l_digits f fd) (T:Txt mg) :FnOk P w K mg base CX0 1 f fd ["_law_script","_law_at","_law_parts"] (spR K (.lst .cl) F_l_digits):=
  fn_auto (k:=0) ⟨[(4,.lst .cl)],.lst .cl⟩ F sc_l_digits (by decide) B_l_digits (fun cdv hk A outer s H E hr=>ss_cons (@s_set _ _ _ _ _ _ 3 _ _ sc_l_digits.nd rfl (Or.inl rfl) (v_sum rfl rfl T.m_sum (PFr.r (fr_comp (k:=1) (N:=["_law_k","_law_script"]) (ix:=[0])  (defScope s_l_digits) rfl ⟨rfl,rfl,by decide +kernel,by decide +kernel,by decide +kernel,rfl,by decide +kernel,rfl⟩ rfl rfl (PIv.raw (iv_rng3 rfl T.m_range (a_cons (PV.r (pv_name (pv 1))) (a_cons (PV.r (v_callB (b_min rfl) rfl T.m_min bt_min (a_cons (PV.r (v_callB (b_len) rfl T.m_len bt_len (a_cons (PV.r (pv_name (pv 0))) (a_nil)))) (a_cons (PV.r (pv_int)) (a_nil))))) (a_cons (PV.r (pv_name (pv 2))) (a_nil)))))) (fun _ _ _ _ _ _=>g_name (i:=0) nd_l_digits_0 rfl (Or.inl rfl)) (fun _ _ _ _ _ _=>if_nil) (fun _ _ _ _ _ _=>r_ix (PV.r (pv_name (pv 1))) (PV.r (pv_name (pv 0))))))) rfl rfl (by first | exact .inl rfl | exact .inr rfl | assumption)) (ss_cons (s_setO (i:=4) sc_l_digits.nd rfl (Or.inl rfl) (fc_lst (ac_nil))) (ss_cons (@s_set _ _ _ _ _ _ 5 _ _ sc_l_digits.nd rfl (Or.inl rfl) (v_mod (PV.r (v_add (PV.r (v_mul (PV.r (pv_name (pv 3))) (PV.r (pv_int)))) (PV.r (pv_int)))) (PV.r (pv_int))) rfl rfl (by first | exact .inl rfl | exact .inr rfl | assumption)) (ss_cons (@s_set _ _ _ _ _ _ 6 _ _ sc_l_digits.nd rfl (Or.inl rfl) (v_mul (PV.r (pv_name (pv 3))) (PV.r (v_callT (b_int) rfl T.m_int bt_int (a_cons (PV.r (v_cmp c_ge (PV.r (pv_name (pv 3))) (PV.r (v_pow (PV.r (pv_int)) (PV.r (pv_int)))))) (a_nil))))) rfl rfl (by first | exact .inl rfl | exact .inr rfl | assumption)) (ss_cons (s_for rfl (iv_rng1 rfl T.m_range (a_cons (PV.r (pv_int)) (a_nil))) (g_name (i:=7) sc_l_digits.nd rfl (Or.inl rfl)) (ss_cons (@s_set _ _ _ _ _ _ 5 _ _ sc_l_digits.nd rfl (Or.inl rfl) (v_mod (PV.r (v_add (PV.r (v_add (PV.r (v_mul (PV.r (pv_name (pv 5))) (PV.r (pv_name (pv 5))))) (PV.r (pv_name (pv 3))))) (PV.r (v_mul (PV.r (pv_int)) (PV.r (pv_name (pv 7))))))) (PV.r (pv_int))) rfl rfl (by first | exact .inl rfl | exact .inr rfl | assumption)) (ss_cons (s_if (t_cmp c_gt (PV.r (pv_name (pv 6))) (PV.r (pv_int))) (ss_one (s_append (pv 4) (v_mod (PV.r (pv_name (pv 6))) (PV.r (pv_int))))) (ss_one (s_append (pv 4) (v_mod (PV.r (v_mod (PV.r (v_mul (PV.r (pv_name (pv 5))) (PV.r (pv_name (pv 5))))) (PV.r (pv_int)))) (PV.r (pv_int)))))) (ss_one (@s_set _ _ _ _ _ _ 6 _ _ sc_l_digits.nd rfl (Or.inl rfl) (v_fdiv (PV.r (pv_name (pv 6))) (PV.r (pv_int))) rfl rfl (by first | exact .inl rfl | exact .inr rfl | assumption))))) PassesOwn.never) (ss_one (s_retO (PFt.rt (PFc.ft (PFr.cf (fr_listrev rfl rfl T.m_list rfl T.m_reversed (pr_name (pv 4)))))))))))))
theorem sc_l_place:FnScope ["_law_purse","_law_digit","_law_number","_law_size"] ["_law_purse"] (defScope s_l_place):=⟨rfl,rfl,rfl,by decide +kernel,rfl,by decide +kernel,by decide +kernel⟩
theorem ok_l_place {f:Addr} {fd:FuncData} (F:Fun K "_law_place" "_law_place" s_l_place f fd) (T:Txt mg) :FnOk P w K mg base CX0 1 f fd ["_law_purse"] (spIO K 0 (.cl) FI_l_place):=
  fn_autoI (k:=0) (fun l=>⟨[(0,.io l)],.cl⟩) F sc_l_place (fun _=>rfl) (fun _=>rfl) [0] (fun _=>rfl) (by decide) B_l_place (fun l cdv hk A outer s H E hr=>ss_consI (s_setX (i:=1) sc_l_place.nd rfl (Or.inl rfl) (x_popI (pv 0))) (ss_consI (s_setX (i:=2) sc_l_place.nd rfl (Or.inl rfl) (x_popI (pv 0))) (ss_ifI (t_cmp (c_eq hr.units) (PV.r (v_mod (PV.r (pv_name (pv 1))) (PV.r (pv_int)))) (PV.r (pv_int))) (ss_retI (j:=0) (PFt.rt (PV.ft (v_tup (ac_cons (v_sub (PV.r (v_mul (PV.r (pv_name (pv 2))) (PV.r (v_pow (PV.r (pv_int)) (PV.r (pv_int)))))) (PV.r (v_mul (PV.r (pv_int)) (PV.r (v_pow (PV.r (pv_int)) (PV.r (pv_int))))))) (ac_cons (v_sub (PV.r (v_mul (PV.r (pv_name (pv 1))) (PV.r (v_pow (PV.r (pv_int)) (PV.r (pv_int)))))) (PV.r (v_mul (PV.r (pv_int)) (PV.r (v_pow (PV.r (pv_int)) (PV.r (pv_int))))))) (ac_nil))))))) (ss_consI (@s_set _ _ _ _ _ _ 3 _ _ sc_l_place.nd rfl (Or.inl rfl) (pv_veil (r_ix (PFr.r (fr_lst (a_cons (PV.r (pv_int)) (a_cons (PV.r (pv_int)) (a_cons (PV.r (pv_int)) (a_cons (PV.r (pv_int)) (a_nil))))))) (PV.r (v_mod (PV.r (v_fdiv (PV.r (pv_name (pv 1))) (PV.r (pv_int)))) (PV.r (pv_int)))))) rfl rfl (by first | exact .inl rfl | exact .inr rfl | assumption)) (ss_retI (j:=0) (PFt.rt (PV.ft (v_tup (ac_cons (v_sub (PV.r (v_mod (PV.r (v_fdiv (PV.r (pv_name (pv 1))) (PV.r (pv_int)))) (PV.r (pv_name (pv 3))))) (PV.r (v_fdiv (PV.r (pv_name (pv 3))) (PV.r (pv_int))))) (ac_cons (v_sub (PV.r (v_mod (PV.r (pv_name (pv 2))) (PV.r (pv_name (pv 3))))) (PV.r (v_fdiv (PV.r (pv_name (pv 3))) (PV.r (pv_int))))) (ac_nil)))))))))))
theorem sc_p_check_many:FnScope ["many"] ["many"] (defScope s_p_check_many):=⟨rfl,rfl,rfl,by decide +kernel,rfl,by decide +kernel,by decide +kernel⟩
theorem ok_p_check_many {f:Addr} {fd:FuncData} (F:Fun K "check_many" ("check_many") s_p_check_many f fd) (T:Txt mg) :FnOk P w K mg base CX0 1 f fd ["many"] (spR K (.cl) F_p_check_many):=
  fn_auto (k:=0) ⟨[],.cl⟩ F sc_p_check_many (by decide) B_p_check_many (fun cdv hk A outer s H E hr=>ss_one (s_if (t_cmp c_lt (PV.r (pv_name (pv 0))) (PV.r (pv_int))) (ss_one (s_never)) (ss_nil)))
theorem sc_w_init:FnScope ["self","many"] ["self","many"] (defScope s_w_init):=⟨rfl,rfl,rfl,by decide +kernel,rfl,by decide +kernel,by decide +kernel⟩
theorem ok_w_init {f:Addr} {fd:FuncData} (F:Fun K "__init__" ("Watch" ++ ".__init__") s_w_init f fd) (T:Txt mg) (G_p_check_many:DefOk P w K mg base 1 "check_many" ["many"] (.cl) F_p_check_many) (FO_last_bar:FldOk K "Watch" "last_bar") (FO_last_mark:FldOk K "Watch" "last_mark") (FO_chosen:FldOk K "Watch" "chosen") (FO_places:FldOk K "Watch" "places") (FO_many:FldOk K "Watch" "many"):FnOk P w K mg base CX0 2 f fd ["self","many"] (spRc K "Watch" [] [] ["many","places","chosen","last_mark","last_bar"] [.cl,.lst .cl,.lst .cl,.cl,.cl] FR_w_init):=
  fn_autoR (k:=1) (fun l=>⟨[(0,.rc (some l) "Watch" [] [])],.cl⟩) F sc_w_init (fun _=>rfl) [0] (fun _=>rfl) (by decide) B_w_init (fun l cdv hk A outer s H E hr=>ss_consR (s_expr (r_callD G_p_check_many (hr.mono (by decide)) rfl (a_cons (PV.r (pv_name (pv 1))) (a_nil)))) (ss_newF (ns0:=[]) (ts0:=[]) (T:=.cl) (O':=⟨[(0,.rc (some l) "Watch" ["many"] [.cl])],.cl⟩) FO_many (pv 0) (PV.ft (pv_name (pv 1))) (ss_newF (ns0:=["many"]) (ts0:=[.cl]) (T:=.lst .cl) (O':=⟨[(0,.rc (some l) "Watch" ["many","places"] [.cl,.lst .cl])],.cl⟩) FO_places (pv 0) (PFc.ft (fc_lst (ac_nil))) (ss_newF (ns0:=["many","places"]) (ts0:=[.cl,.lst .cl]) (T:=.lst .cl) (O':=⟨[(0,.rc (some l) "Watch" ["many","places","chosen"] [.cl,.lst .cl,.lst .cl])],.cl⟩) FO_chosen (pv 0) (PFc.ft (fc_lst (ac_nil))) (ss_newF (ns0:=["many","places","chosen"]) (ts0:=[.cl,.lst .cl,.lst .cl]) (T:=.cl) (O':=⟨[(0,.rc (some l) "Watch" ["many","places","chosen","last_mark"] [.cl,.lst .cl,.lst .cl,.cl])],.cl⟩) FO_last_mark (pv 0) (PV.ft (pv_int)) (ss_newF (ns0:=["many","places","chosen","last_mark"]) (ts0:=[.cl,.lst .cl,.lst .cl,.cl]) (T:=.cl) (O':=⟨[(0,.rc (some l) "Watch" ["many","places","chosen","last_mark","last_bar"] [.cl,.lst .cl,.lst .cl,.cl,.cl])],.cl⟩) FO_last_bar (pv 0) (PV.ft (pv_non)) (ss_endR)))))))
theorem sc_p_side_between:FnScope ["one","other"] ["one","other"] (defScope s_p_side_between):=⟨rfl,rfl,rfl,by decide +kernel,rfl,by decide +kernel,by decide +kernel⟩
theorem ok_p_side_between {f:Addr} {fd:FuncData} (F:Fun K "side_between" ("side_between") s_p_side_between f fd) (T:Txt mg) :FnOk P w K mg base CX0 1 f fd ["one","other"] (spR K (.cl) F_p_side_between):=
  fn_auto (k:=0) ⟨[],.cl⟩ F sc_p_side_between (by decide) B_p_side_between (fun cdv hk A outer s H E hr=>ss_one (s_ret (PV.r (v_callB (b_max rfl) rfl T.m_max bt_max (a_cons (PV.r (v_callB (b_abs) rfl T.m_abs bt_abs (a_cons (PV.r (v_sub (r_ix (PV.r (pv_name (pv 0))) (PV.r (pv_int))) (r_ix (PV.r (pv_name (pv 1))) (PV.r (pv_int))))) (a_nil)))) (a_cons (PV.r (v_callB (b_abs) rfl T.m_abs bt_abs (a_cons (PV.r (v_sub (r_ix (PV.r (pv_name (pv 0))) (PV.r (pv_int))) (r_ix (PV.r (pv_name (pv 1))) (PV.r (pv_int))))) (a_nil)))) (a_nil)))))))
theorem sc_w_way_between:FnScope ["self","one","other"] ["self","one","other"] (defScope s_w_way_between):=⟨rfl,rfl,rfl,by decide +kernel,rfl,by decide +kernel,by decide +kernel⟩
theorem ok_w_way_between {f:Addr} {fd:FuncData} (F:Fun K "way_between" ("Watch" ++ "." ++ "way_between") s_w_way_between f fd) (T:Txt mg) (G_p_side_between:DefOk P w K mg base 1 "side_between" ["one","other"] (.cl) F_p_side_between) (FO_places:FldOk K "Watch" "places"):FnOk P w K mg base CX0 2 f fd ["self","one","other"] (spR K (.cl) F_w_way_between):=
  fn_auto (k:=1) ⟨[],.cl⟩ F sc_w_way_between (by decide) B_w_way_between (fun cdv hk A outer s H E hr=>ss_one (s_ret (r_callD G_p_side_between (hr.mono (by decide)) rfl (a_cons (r_ix (r_fld (cls:="Watch") FO_places (PV.r (pv_name (pv 0)))) (PV.r (pv_name (pv 1)))) (a_cons (r_ix (r_fld (cls:="Watch") FO_places (PV.r (pv_name (pv 0)))) (PV.r (pv_name (pv 2)))) (a_nil))))))
theorem sc_w_is_far:FnScope ["self","number","others"] ["self","number","others"] (defScope s_w_is_far):=⟨rfl,rfl,rfl,by decide +kernel,rfl,by decide +kernel,by decide +kernel⟩
theorem nd_w_is_far_0:(["other","self","number"]:List Str).Nodup:=by decide +kernel
theorem ok_w_is_far {f:Addr} {fd:FuncData} (F:Fun K "is_far" ("Watch" ++ "." ++ "is_far") s_w_is_far f fd) (T:Txt mg) (G_w_way_between:DefM P w K mg base 2 "Watch" "way_between" ["self","one","other"] (.cl) F_w_way_between) (FO_last_mark:FldOk K "Watch" "last_mark"):FnOk P w K mg base CX0 3 f fd ["self","number","others"] (spR K (.cl) F_w_is_far):=
  fn_auto (k:=2) ⟨[],.cl⟩ F sc_w_is_far (by decide) B_w_is_far (fun cdv hk A outer s H E hr=>ss_one (s_ret (PV.r (v_all rfl rfl T.m_all (PFr.r (fr_comp (k:=1) (N:=["other","self","number"]) (ix:=[0,1])  (defScope s_w_is_far) rfl ⟨rfl,rfl,by decide +kernel,by decide +kernel,by decide +kernel,rfl,by decide +kernel,rfl⟩ rfl rfl (ir_list (PV.r (pv_name (pv 2)))) (fun _ _ _ _ _ _=>g_name (i:=0) nd_w_is_far_0 rfl (Or.inl rfl)) (fun _ _ _ _ _ _=>if_nil) (fun _ _ _ _ _ _=>PV.r (v_cmp c_gt (r_callM G_w_way_between (hr.mono (by decide)) (PV.r (pv_name (pv 1))) (a_cons (PV.r (pv_name (pv 2))) (a_cons (PV.r (pv_name (pv 0))) (a_nil)))) (PV.r (v_mul (PV.r (pv_int)) (r_fld (cls:="Watch") FO_last_mark (PV.r (pv_name (pv 1))))))))))))))
theorem sc_w_least_way:FnScope ["self","ways","place","number"] ["self"] (defScope s_w_least_way):=⟨rfl,rfl,rfl,by decide +kernel,rfl,by decide +kernel,by decide +kernel⟩
theorem nd_w_least_way_0:(["other","self","number"]:List Str).Nodup:=by decide +kernel
theorem ok_w_least_way {f:Addr} {fd:FuncData} (F:Fun K "least_way" ("Watch" ++ "." ++ "least_way") s_w_least_way f fd) (T:Txt mg) (G_w_way_between:DefM P w K mg base 2 "Watch" "way_between" ["self","one","other"] (.cl) F_w_way_between) (FO_chosen:FldOk K "Watch" "chosen"):FnOk P w K mg base CX0 3 f fd ["self"] (spR K (.cl) F_w_least_way):=
  fn_auto (k:=2) ⟨[(1,.lst .cl)],.cl⟩ F sc_w_least_way (by decide) B_w_least_way (fun cdv hk A outer s H E hr=>ss_cons (s_setO (i:=1) sc_w_least_way.nd rfl (Or.inl rfl) (fc_lst (ac_nil))) (ss_cons (s_for rfl (iv_enum rfl T.m_enumerate (v_fld (cls:="Watch") FO_chosen (pv_name (pv 0)))) (g_tup rfl (gs_cons (g_name (i:=2) sc_w_least_way.nd rfl (Or.inl rfl)) (gs_cons (g_name (i:=3) sc_w_least_way.nd rfl (Or.inr rfl)) (gs_nil)))) (ss_one (s_extend (pv 1) (PFr.cf (fr_comp (k:=1) (N:=["other","self","number"]) (ix:=[0,3])  (defScope s_w_least_way) rfl ⟨rfl,rfl,by decide +kernel,by decide +kernel,by decide +kernel,rfl,by decide +kernel,rfl⟩ rfl rfl (ir_list (PFr.r (fr_slice (r_fld (cls:="Watch") FO_chosen (PV.r (pv_name (pv 0)))) (o_none) (o_some (PV.r (pv_name (pv 2))))))) (fun _ _ _ _ _ _=>g_name (i:=0) nd_w_least_way_0 rfl (Or.inl rfl)) (fun _ _ _ _ _ _=>if_nil) (fun _ _ _ _ _ _=>r_callM G_w_way_between (hr.mono (by decide)) (PV.r (pv_name (pv 1))) (a_cons (PV.r (pv_name (pv 2))) (a_cons (PV.r (pv_name (pv 0))) (a_nil)))))))) PassesOwn.never) (ss_one (s_ret (PV.r (v_minL rfl rfl T.m_min (pr_name (pv 1))))))))
theorem sc_w_raise_mark:FnScope ["self","kept","number"] ["self"] (defScope s_w_raise_mark):=⟨rfl,rfl,rfl,by decide +kernel,rfl,by decide +kernel,by decide +kernel⟩
theorem ok_w_raise_mark {f:Addr} {fd:FuncData} (F:Fun K "raise_mark" ("Watch" ++ "." ++ "raise_mark") s_w_raise_mark f fd) (T:Txt mg) (G_w_least_way:DefM P w K mg base 3 "Watch" "least_way" ["self"] (.cl) F_w_least_way) (G_w_is_far:DefM P w K mg base 3 "Watch" "is_far" ["self","number","others"] (.cl) F_w_is_far) (FO_chosen:FldOk K "Watch" "chosen") (FO_last_bar:FldOk K "Watch" "last_bar") (FO_last_mark:FldOk K "Watch" "last_mark"):FnOk P w K mg base CX0 4 f fd ["self"] (spRc K "Watch" ["many","places","chosen","last_mark","last_bar"] [.cl,.lst .cl,.lst .cl,.cl,.cl] ["many","places","chosen","last_mark","last_bar"] [.cl,.lst .cl,.lst .cl,.cl,.cl] FR_w_raise_mark):=
  fn_autoR (k:=3) (fun l=>⟨[(0,.rc (some l) "Watch" ["many","places","chosen","last_mark","last_bar"] [.cl,.lst .cl,.lst .cl,.cl,.cl]),(1,.lst .cl)],.cl⟩) F sc_w_raise_mark (fun _=>rfl) [0,1] (fun _=>rfl) (by decide) B_w_raise_mark (fun l cdv hk A outer s H E hr=>ss_looseR (k:=2) (O':=⟨[(0,.rc (some l) "Watch" ["many","places","chosen","last_mark","last_bar"] [.cl,.lst .cl,.cl,.cl,.cl]),(1,.lst .cl)],.cl⟩) (ss_consR (s_setF (k:=4) FO_last_bar (pv 0) (v_fldO (k:=2) FO_chosen (pv 0))) (ss_consR (s_setF (k:=3) FO_last_mark (pv 0) (PR.clf (r_callM0 G_w_least_way (hr.mono (by decide)) (pr_name (pv 0))))) (ss_consR (s_setO (i:=1) sc_w_raise_mark.nd rfl (Or.inl rfl) (fc_lst (ac_nil))) (ss_consR (s_for rfl (iv_list (v_fldO (k:=4) FO_last_bar (pv 0))) (g_name (i:=2) sc_w_raise_mark.nd rfl (Or.inl rfl)) (ss_one (s_if (t_val (r_callM G_w_is_far (hr.mono (by decide)) (pr_name (pv 0)) (a_cons (PV.r (pv_name (pv 2))) (a_cons (pr_name (pv 1)) (a_nil))))) (ss_one (s_append (pv 1) (pv_name (pv 2)))) (ss_nil))) PassesOwn.never) (ss_moveR (k:=2) (j:=1) FO_chosen (pv 0) (pv 1)))))))
theorem sc_w_come:FnScope ["self","x","y","number"] ["self","x","y"] (defScope s_w_come):=⟨rfl,rfl,rfl,by decide +kernel,rfl,by decide +kernel,by decide +kernel⟩
theorem ok_w_come {f:Addr} {fd:FuncData} (F:Fun K "come" ("Watch" ++ "." ++ "come") s_w_come f fd) (T:Txt mg) (G_w_is_far:DefM P w K mg base 3 "Watch" "is_far" ["self","number","others"] (.cl) F_w_is_far) (G_w_raise_mark:DefRc P w K mg base 4 "Watch" "raise_mark" ["self"] ["many","places","chosen","last_mark","last_bar"] [.cl,.lst .cl,.lst .cl,.cl,.cl] FR_w_raise_mark) (FO_chosen:FldOk K "Watch" "chosen") (FO_many:FldOk K "Watch" "many") (FO_places:FldOk K "Watch" "places"):FnOk P w K mg base CX0 5 f fd ["self","x","y"] (spRc K "Watch" ["many","places","chosen","last_mark","last_bar"] [.cl,.lst .cl,.lst .cl,.cl,.cl] ["many","places","chosen","last_mark","last_bar"] [.cl,.lst .cl,.lst .cl,.cl,.cl] FR_w_come):=
  fn_autoR (k:=4) (fun l=>⟨[(0,.rc (some l) "Watch" ["many","places","chosen","last_mark","last_bar"] [.cl,.lst .cl,.lst .cl,.cl,.cl])],.cl⟩) F sc_w_come (fun _=>rfl) [0] (fun _=>rfl) (by decide) B_w_come (fun l cdv hk A outer s H E hr=>ss_consR (@s_set _ _ _ _ _ _ 3 _ _ sc_w_come.nd rfl (Or.inl rfl) (v_callB (b_len) rfl T.m_len bt_len (a_cons (r_fld (cls:="Watch") FO_places (pr_name (pv 0))) (a_nil))) rfl rfl (by first | exact .inl rfl | exact .inr rfl | assumption)) (ss_consR (s_appF (k:=1) FO_places (pv 0) (v_tup (ac_cons (pv_name (pv 1)) (ac_cons (pv_name (pv 2)) (ac_nil))))) (ss_consR (s_if (t_val (r_callM G_w_is_far (hr.mono (by decide)) (pr_name (pv 0)) (a_cons (PV.r (pv_name (pv 3))) (a_cons (r_fld (cls:="Watch") FO_chosen (pr_name (pv 0))) (a_nil))))) (ss_one (s_appF (k:=2) FO_chosen (pv 0) (pv_name (pv 3)))) (ss_nil)) (ss_consR (s_while (fun ρ=>64) (t_cmp c_gt (PV.r (v_callB (b_len) rfl T.m_len bt_len (a_cons (r_fld (cls:="Watch") FO_chosen (pr_name (pv 0))) (a_nil)))) (r_fld (cls:="Watch") FO_many (pr_name (pv 0)))) (ss_one (s_methR0 G_w_raise_mark (hr.mono (by decide)) (pv 0))) PassesOwn.never) (ss_retR (pv_name (pv 3)))))))
theorem sc_w_posts:FnScope ["self"] ["self"] (defScope s_w_posts):=⟨rfl,rfl,rfl,by decide +kernel,rfl,by decide +kernel,by decide +kernel⟩
theorem ok_w_posts {f:Addr} {fd:FuncData} (F:Fun K "posts" ("Watch" ++ "." ++ "posts") s_w_posts f fd) (T:Txt mg)  (FO_chosen:FldOk K "Watch" "chosen"):FnOk P w K mg base CX0 1 f fd ["self"] (spR K (.nw) F_w_posts):=
  fn_auto (k:=0) ⟨[],.nw⟩ F sc_w_posts (by decide) B_w_posts (fun cdv hk A outer s H E hr=>ss_one (s_retO (PFt.rt (PFr.nw (fr_list rfl T.m_list (r_fld (cls:="Watch") FO_chosen (PV.r (pv_name (pv 0)))))))))
theorem sc_w_bar:FnScope ["self"] ["self"] (defScope s_w_bar):=⟨rfl,rfl,rfl,by decide +kernel,rfl,by decide +kernel,by decide +kernel⟩
theorem ok_w_bar {f:Addr} {fd:FuncData} (F:Fun K "bar" ("Watch" ++ "." ++ "bar") s_w_bar f fd) (T:Txt mg)  (FO_last_bar:FldOk K "Watch" "last_bar"):FnOk P w K mg base CX0 1 f fd ["self"] (spR K (.nw) F_w_bar):=
  fn_auto (k:=0) ⟨[],.nw⟩ F sc_w_bar (by decide) B_w_bar (fun cdv hk A outer s H E hr=>ss_one (s_retO (PFt.rt (ft_if (t_cmp c_is (r_fld (cls:="Watch") FO_last_bar (PV.r (pv_name (pv 0)))) (PV.r (pv_non))) (PR.nw (PV.r (pv_non))) (PFr.nw (fr_list rfl T.m_list (r_fld (cls:="Watch") FO_last_bar (PV.r (pv_name (pv 0))))))))))
theorem sc_w_mark:FnScope ["self"] ["self"] (defScope s_w_mark):=⟨rfl,rfl,rfl,by decide +kernel,rfl,by decide +kernel,by decide +kernel⟩
theorem ok_w_mark {f:Addr} {fd:FuncData} (F:Fun K "mark" ("Watch" ++ "." ++ "mark") s_w_mark f fd) (T:Txt mg)  (FO_last_mark:FldOk K "Watch" "last_mark"):FnOk P w K mg base CX0 1 f fd ["self"] (spR K (.cl) F_w_mark):=
  fn_auto (k:=0) ⟨[],.cl⟩ F sc_w_mark (by decide) B_w_mark (fun cdv hk A outer s H E hr=>ss_one (s_ret (r_fld (cls:="Watch") FO_last_mark (PV.r (pv_name (pv 0))))))
theorem sc_w_way_to_post:FnScope ["self","number"] ["self","number"] (defScope s_w_way_to_post):=⟨rfl,rfl,rfl,by decide +kernel,rfl,by decide +kernel,by decide +kernel⟩
theorem nd_w_way_to_post_0:(["post","self","number"]:List Str).Nodup:=by decide +kernel
theorem ok_w_way_to_post {f:Addr} {fd:FuncData} (F:Fun K "way_to_post" ("Watch" ++ "." ++ "way_to_post") s_w_way_to_post f fd) (T:Txt mg) (G_w_way_between:DefM P w K mg base 2 "Watch" "way_between" ["self","one","other"] (.cl) F_w_way_between) (FO_chosen:FldOk K "Watch" "chosen"):FnOk P w K mg base CX0 3 f fd ["self","number"] (spR K (.cl) F_w_way_to_post):=
  fn_auto (k:=2) ⟨[],.cl⟩ F sc_w_way_to_post (by decide) B_w_way_to_post (fun cdv hk A outer s H E hr=>ss_one (s_ret (PV.r (v_minL rfl rfl T.m_min (PFr.r (fr_comp (k:=1) (N:=["post","self","number"]) (ix:=[0,1])  (defScope s_w_way_to_post) rfl ⟨rfl,rfl,by decide +kernel,by decide +kernel,by decide +kernel,rfl,by decide +kernel,rfl⟩ rfl rfl (ir_list (r_fld (cls:="Watch") FO_chosen (PV.r (pv_name (pv 0))))) (fun _ _ _ _ _ _=>g_name (i:=0) nd_w_way_to_post_0 rfl (Or.inl rfl)) (fun _ _ _ _ _ _=>if_nil) (fun _ _ _ _ _ _=>r_callM G_w_way_between (hr.mono (by decide)) (PV.r (pv_name (pv 1))) (a_cons (PV.r (pv_name (pv 2))) (a_cons (PV.r (pv_name (pv 0))) (a_nil))))))))))
theorem sc_w_reach:FnScope ["self"] ["self"] (defScope s_w_reach):=⟨rfl,rfl,rfl,by decide +kernel,rfl,by decide +kernel,by decide +kernel⟩
theorem nd_w_reach_0:(["number","self"]:List Str).Nodup:=by decide +kernel
theorem ok_w_reach {f:Addr} {fd:FuncData} (F:Fun K "reach" ("Watch" ++ "." ++ "reach") s_w_reach f fd) (T:Txt mg) (G_w_way_to_post:DefM P w K mg base 3 "Watch" "way_to_post" ["self","number"] (.cl) F_w_way_to_post) (FO_places:FldOk K "Watch" "places"):FnOk P w K mg base CX0 4 f fd ["self"] (spR K (.cl) F_w_reach):=
  fn_auto (k:=3) ⟨[],.cl⟩ F sc_w_reach (by decide) B_w_reach (fun cdv hk A outer s H E hr=>ss_one (s_ret (PV.r (v_maxDf hr.hd rfl T.m_max (PFr.r (fr_comp (k:=1) (N:=["number","self"]) (ix:=[0])  (defScope s_w_reach) rfl ⟨rfl,rfl,by decide +kernel,by decide +kernel,by decide +kernel,rfl,by decide +kernel,rfl⟩ rfl rfl (PIv.raw (iv_rng1 rfl T.m_range (a_cons (PV.r (v_callB (b_len) rfl T.m_len bt_len (a_cons (r_fld (cls:="Watch") FO_places (PV.r (pv_name (pv 0)))) (a_nil)))) (a_nil)))) (fun _ _ _ _ _ _=>g_name (i:=0) nd_w_reach_0 rfl (Or.inl rfl)) (fun _ _ _ _ _ _=>if_nil) (fun _ _ _ _ _ _=>r_callM G_w_way_to_post (hr.mono (by decide)) (PV.r (pv_name (pv 1))) (a_cons (PV.r (pv_name (pv 0))) (a_nil)))))))))
theorem sc_l_told:FnScope ["_law_watch","_law_times"] ["_law_watch","_law_times"] (defScope s_l_told):=⟨rfl,rfl,rfl,by decide +kernel,rfl,by decide +kernel,by decide +kernel⟩
theorem ok_l_told {f:Addr} {fd:FuncData} (F:Fun K "_law_told" ("_law_told") s_l_told f fd) (T:Txt mg) (G_w_posts:DefM P w K mg base 1 "Watch" "posts" ["self"] (.nw) F_w_posts) (G_w_bar:DefM P w K mg base 1 "Watch" "bar" ["self"] (.nw) F_w_bar) (G_w_mark:DefM P w K mg base 1 "Watch" "mark" ["self"] (.cl) F_w_mark) (G_w_reach:DefM P w K mg base 4 "Watch" "reach" ["self"] (.cl) F_w_reach):FnOk P w K mg base CX0 5 f fd ["_law_watch","_law_times"] (spR K (.nw) F_l_told):=
  fn_auto (k:=4) ⟨[],.nw⟩ F sc_l_told (by decide) B_l_told (fun cdv hk A outer s H E hr=>ss_one (s_retO (rt_lstN (ra_cons (PFt.rt (ft_callM0 G_w_posts (hr.mono (by decide)) (pv_name (pv 0)))) (ra_cons (PFt.rt (ft_callM0 G_w_bar (hr.mono (by decide)) (pv_name (pv 0)))) (ra_cons (PFt.rt (PR.nw (PV.r (v_mul (r_callM0 G_w_mark (hr.mono (by decide)) (PV.r (pv_name (pv 0)))) (PV.r (pv_name (pv 1))))))) (ra_cons (PFt.rt (PR.nw (PV.r (v_mul (r_callM0 G_w_reach (hr.mono (by decide)) (PV.r (pv_name (pv 0)))) (PV.r (pv_name (pv 1))))))) (ra_nil))))))))
theorem sc_w_folk:FnScope ["self"] ["self"] (defScope s_w_folk):=⟨rfl,rfl,rfl,by decide +kernel,rfl,by decide +kernel,by decide +kernel⟩
theorem ok_w_folk {f:Addr} {fd:FuncData} (F:Fun K "folk" ("Watch" ++ "." ++ "folk") s_w_folk f fd) (T:Txt mg)  (FO_places:FldOk K "Watch" "places"):FnOk P w K mg base CX0 1 f fd ["self"] (spR K (.cl) F_w_folk):=
  fn_auto (k:=0) ⟨[],.cl⟩ F sc_w_folk (by decide) B_w_folk (fun cdv hk A outer s H E hr=>ss_one (s_ret (PFr.r (fr_list rfl T.m_list (r_fld (cls:="Watch") FO_places (PV.r (pv_name (pv 0))))))))
theorem sc_l_places:FnScope ["_law_watch","_law_places_here"] ["_law_watch"] (defScope s_l_places):=⟨rfl,rfl,rfl,by decide +kernel,rfl,by decide +kernel,by decide +kernel⟩
theorem nd_l_places_0:(["_law_post","_law_places_here"]:List Str).Nodup:=by decide +kernel
theorem ok_l_places {f:Addr} {fd:FuncData} (F:Fun K "_law_places" ("_law_places") s_l_places f fd) (T:Txt mg) (G_w_folk:DefM P w K mg base 1 "Watch" "folk" ["self"] (.cl) F_w_folk) (G_w_mark:DefM P w K mg base 1 "Watch" "mark" ["self"] (.cl) F_w_mark) (G_w_reach:DefM P w K mg base 4 "Watch" "reach" ["self"] (.cl) F_w_reach) (G_w_posts:DefM P w K mg base 1 "Watch" "posts" ["self"] (.nw) F_w_posts):FnOk P w K mg base CX0 5 f fd ["_law_watch"] (spR K (.cl) F_l_places):=
  fn_auto (k:=4) ⟨[],.cl⟩ F sc_l_places (by decide) B_l_places (fun cdv hk A outer s H E hr=>ss_cons (@s_set _ _ _ _ _ _ 1 _ _ sc_l_places.nd rfl (Or.inr rfl) (PR.cl0 (r_callM0 G_w_folk (hr.mono (by decide)) (PV.r (pv_name (pv 0))))) rfl rfl (by first | exact .inl rfl | exact .inr rfl | assumption)) (ss_one (s_ret (PFr.r (fr_lst (a_cons (PFr.r (fr_comp (k:=1) (N:=["_law_post","_law_places_here"]) (ix:=[1])  (defScope s_l_places) rfl ⟨rfl,rfl,by decide +kernel,by decide +kernel,by decide +kernel,rfl,by decide +kernel,rfl⟩ rfl rfl (ir_list (r_callM0 G_w_posts (hr.mono (by decide)) (PV.r (pv_name (pv 0))))) (fun _ _ _ _ _ _=>g_name (i:=0) nd_l_places_0 rfl (Or.inl rfl)) (fun _ _ _ _ _ _=>if_nil) (fun _ _ _ _ _ _=>r_ix (PV.r (pv_name (pv 1))) (PV.r (pv_name (pv 0)))))) (a_cons (r_callM0 G_w_mark (hr.mono (by decide)) (PV.r (pv_name (pv 0)))) (a_cons (r_callM0 G_w_reach (hr.mono (by decide)) (PV.r (pv_name (pv 0)))) (a_nil)))))))))
theorem sc_law:FnScope ["_law_script","_law_purse","_law_many","_law_watches","_law_u","_law_v","_law_times","_law_signs","_law_turn","_law_x","_law_y","_law_due"] ["_law_script"] (defScope s_law):=⟨rfl,rfl,rfl,by decide +kernel,rfl,by decide +kernel,by decide +kernel⟩
theorem nd_law_0:(["_law_turn","_law_many"]:List Str).Nodup:=by decide +kernel
theorem ok_law {f:Addr} {fd:FuncData} (F:Fun K "law" ("law") s_law f fd) (T:Txt mg) (G_l_digits:DefOk P w K mg base 1 "_law_digits" ["_law_script","_law_at","_law_parts"] (.lst .cl) F_l_digits) (G_l_place:DefI P w K mg base 1 "_law_place" ["_law_purse"] 0 (.cl) FI_l_place) (G_w_init:DefW P w K mg base 2 "Watch" ["self","many"] ["many","places","chosen","last_mark","last_bar"] [.cl,.lst .cl,.lst .cl,.cl,.cl] FR_w_init) (G_w_come:DefRc P w K mg base 5 "Watch" "come" ["self","x","y"] ["many","places","chosen","last_mark","last_bar"] [.cl,.lst .cl,.lst .cl,.cl,.cl] FR_w_come) (G_l_told:DefOk P w K mg base 5 "_law_told" ["_law_watch","_law_times"] (.nw) F_l_told) (G_l_places:DefOk P w K mg base 5 "_law_places" ["_law_watch"] (.cl) F_l_places):FnOk P w K mg base CX0 6 f fd ["_law_script"] (spR K (.cl) F_law):=
  fn_auto (k:=5) ⟨[(1,.lst .cl),(3,.lst (.rc none "Watch" ["many","places","chosen","last_mark","last_bar"] [.cl,.lst .cl,.lst .cl,.cl,.cl]))],.cl⟩ F sc_law (by decide) B_law (fun cdv hk A outer s H E hr=>ss_cons (s_setT (i:=1) sc_law.nd rfl (Or.inl rfl) (ft_callD G_l_digits (hr.mono (by decide)) rfl (ac_cons (pv_name (pv 0)) (ac_cons (pv_int) (ac_cons (pv_int) (ac_nil)))))) (ss_cons (s_setX (i:=2) sc_law.nd rfl (Or.inr rfl) (x_addR (pv_int) (x_modL (x_pop (pv 1)) (PV.r (pv_int))))) (ss_cons (s_setCF (i:=3)  (k:=1) (N:=["_law_turn","_law_many"]) (ix:=[2]) sc_law.nd rfl (Or.inl rfl) (defScope s_law) rfl ⟨rfl,rfl,by decide +kernel,by decide +kernel,by decide +kernel,rfl,by decide +kernel,rfl⟩ rfl rfl (PIv.raw (iv_rng1 rfl T.m_range (a_cons (PV.r (pv_int)) (a_nil)))) (fun _ _ _ _ _ _=>g_name (i:=0) nd_law_0 rfl (Or.inl rfl)) (fun _ _ _ _ _ _=>if_nil) (fun _ _ _ _ _ _=>ft_makeW G_w_init (hr.mono (by decide)) rfl (ac_cons (pv_name (pv 1)) (ac_nil)))) (ss_cons (s_asg (PFt.v (ft_callN G_l_place (hr.mono (by decide)) rfl (PFt.fc (ft_callD G_l_digits (hr.mono (by decide)) rfl (ac_cons (pv_name (pv 0)) (ac_cons (pv_int) (ac_cons (pv_int) (ac_nil)))))) (ac_nil))) (g_tup rfl (gs_cons (g_name (i:=4) sc_law.nd rfl (Or.inl rfl)) (gs_cons (g_name (i:=5) sc_law.nd rfl (Or.inl rfl)) (gs_nil))))) (ss_cons (s_setX (i:=6) sc_law.nd rfl (Or.inl rfl) (x_addR (pv_int) (x_modL (x_pop (pv 1)) (PV.r (pv_int))))) (ss_cons (s_setX (i:=7) sc_law.nd rfl (Or.inl rfl) (x_lst (ax_cons (x_ix (PFc.v (fc_lst (ac_cons (pv_int) (ac_cons (v_neg (PV.r (pv_int))) (ac_nil))))) (x_modL (x_pop (pv 1)) (PV.r (pv_int)))) (ax_cons (x_ix (PFc.v (fc_lst (ac_cons (pv_int) (ac_cons (v_neg (PV.r (pv_int))) (ac_nil))))) (x_modL (x_pop (pv 1)) (PV.r (pv_int)))) (ax_nil))))) (ss_cons (s_forX rfl rfl T.m_range (x_modL (x_pop (pv 1)) (PV.r (pv_int))) (g_name (i:=8) sc_law.nd rfl (Or.inl rfl)) (ss_cons (s_asgX (x_callI0 G_l_place (hr.mono (by decide)) rfl (pv 1)) (g_tup rfl (gs_cons (g_name (i:=9) sc_law.nd rfl (Or.inl rfl)) (gs_cons (g_name (i:=10) sc_law.nd rfl (Or.inl rfl)) (gs_nil))))) (ss_cons (s_methIx G_w_come (hr.mono (by decide)) (pv 3) (PV.r (pv_int)) (ac_cons (pv_name (pv 9)) (ac_cons (pv_name (pv 10)) (ac_nil)))) (ss_cons (s_methIx G_w_come (hr.mono (by decide)) (pv 3) (PV.r (pv_int)) (ac_cons (v_add (PV.r (pv_name (pv 9))) (PV.r (pv_name (pv 4)))) (ac_cons (v_add (PV.r (pv_name (pv 10))) (PV.r (pv_name (pv 5)))) (ac_nil)))) (ss_cons (s_methIx G_w_come (hr.mono (by decide)) (pv 3) (PV.r (pv_int)) (ac_cons (v_mul (r_ix (PV.r (pv_name (pv 7))) (PV.r (pv_int))) (PV.r (pv_name (pv 10)))) (ac_cons (v_mul (r_ix (PV.r (pv_name (pv 7))) (PV.r (pv_int))) (PV.r (pv_name (pv 9)))) (ac_nil)))) (ss_cons (s_methIx G_w_come (hr.mono (by decide)) (pv 3) (PV.r (pv_int)) (ac_cons (v_mul (PV.r (pv_name (pv 6))) (PV.r (pv_name (pv 9)))) (ac_cons (v_mul (PV.r (pv_name (pv 6))) (PV.r (pv_name (pv 10)))) (ac_nil)))) (ss_cons (s_methIx G_w_come (hr.mono (by decide)) (pv 3) (PV.r (pv_int)) (ac_cons (pv_name (pv 9)) (ac_cons (pv_name (pv 10)) (ac_nil)))) (ss_cons (s_methIx G_w_come (hr.mono (by decide)) (pv 3) (PV.r (pv_int)) (ac_cons (pv_name (pv 9)) (ac_cons (pv_name (pv 10)) (ac_nil)))) (ss_cons (@s_set _ _ _ _ _ _ 11 _ _ sc_law.nd rfl (Or.inl rfl) (v_callNw G_l_told (hr.mono (by decide)) rfl (a_cons (r_ix (pr_name (pv 3)) (PV.r (pv_int))) (a_cons (PV.r (pv_int)) (a_nil)))) rfl rfl (by first | exact .inl rfl | exact .inr rfl | assumption)) (ss_cons (s_if (t_w (w_or (t_cmp (c_ne hr.units) (r_callD G_l_told (hr.mono (by decide)) rfl (a_cons (r_ix (pr_name (pv 3)) (PV.r (pv_int))) (a_cons (PV.r (pv_int)) (a_nil)))) (PV.r (pv_name (pv 11)))) (w_or1 (t_cmp (c_ne hr.units) (r_callD G_l_told (hr.mono (by decide)) rfl (a_cons (r_ix (pr_name (pv 3)) (PV.r (pv_int))) (a_cons (PV.r (pv_int)) (a_nil)))) (PV.r (pv_name (pv 11))))))) (ss_one (s_ret (PV.r (pv_bl)))) (ss_nil)) (ss_cons (s_if (t_cmp (c_ne hr.units) (r_callD G_l_told (hr.mono (by decide)) rfl (a_cons (r_ix (pr_name (pv 3)) (PV.r (pv_int))) (a_cons (PV.r (pv_int)) (a_nil)))) (r_callD G_l_told (hr.mono (by decide)) rfl (a_cons (r_ix (pr_name (pv 3)) (PV.r (pv_int))) (a_cons (PV.r (pv_name (pv 6))) (a_nil))))) (ss_one (s_ret (PV.r (pv_bl)))) (ss_nil)) (ss_one (s_if (t_cmp (c_ne hr.units) (r_callD G_l_places (hr.mono (by decide)) rfl (a_cons (r_ix (pr_name (pv 3)) (PV.r (pv_int))) (a_nil))) (r_callD G_l_places (hr.mono (by decide)) rfl (a_cons (r_ix (pr_name (pv 3)) (PV.r (pv_int))) (a_nil)))) (ss_one (s_ret (PV.r (pv_bl)))) (ss_nil))))))))))))) PassesOwn.never) (ss_one (s_ret (PV.r (pv_bl)))))))))))
end
theorem all_mk {l:PySem.W.OpenLaw} {w:World} {K:PySem.W.Frag} {h:Heap} {mg:Str → Option Value} {fa:Addr} (X:K.In h) (G:h.Ns mainGlobals mg) (hfa:mg "law" = some (.ref fa))
    (fw_many:FldW K "Watch" "many")
    (fw_places:FldW K "Watch" "places")
    (fw_chosen:FldW K "Watch" "chosen")
    (fw_last_mark:FldW K "Watch" "last_mark")
    (fw_last_bar:FldW K "Watch" "last_bar")
    (d0:FnAt K "_law_digits" s_l_digits)
    (d1:FnAt K "_law_place" s_l_place)
    (d2:FnAt K "check_many" s_p_check_many)
    (w3:ClsW K "Watch" s_w_init)
    (d4:FnAt K "side_between" s_p_side_between)
    (m5:MethAt K "Watch" "way_between" s_w_way_between)
    (m6:MethAt K "Watch" "is_far" s_w_is_far)
    (m7:MethAt K "Watch" "least_way" s_w_least_way)
    (m8:MethAt K "Watch" "raise_mark" s_w_raise_mark)
    (m9:MethAt K "Watch" "come" s_w_come)
    (m10:MethAt K "Watch" "posts" s_w_posts)
    (m11:MethAt K "Watch" "bar" s_w_bar)
    (m12:MethAt K "Watch" "mark" s_w_mark)
    (m13:MethAt K "Watch" "way_to_post" s_w_way_to_post)
    (m14:MethAt K "Watch" "reach" s_w_reach)
    (d15:FnAt K "_law_told" s_l_told)
    (m16:MethAt K "Watch" "folk" s_w_folk)
    (d17:FnAt K "_law_places" s_l_places)
    (d18:FnAt K "law" s_law)
    (z_all:noNames K ["abs","all","enumerate","int","len","list","max","min","range","reversed","sum"] = true)
   :∃ fd:FuncData,(∀ (s:Shared) (v:Value),BindsTo s fd ⟨[v],[]⟩ [("_law_script",v)]) ∧ ∀ base:Heap,K.In base → base.Ns mainGlobals mg → FnOk l.prog w K mg base CX0 6 fa fd ["_law_script"] (spR K .cl F_law):=by
  have T:Txt mg:=⟨noNames_get X G z_all 0 rfl,noNames_get X G z_all 1 rfl,noNames_get X G z_all 2 rfl,noNames_get X G z_all 3 rfl,noNames_get X G z_all 4 rfl,noNames_get X G z_all 5 rfl,noNames_get X G z_all 6 rfl,noNames_get X G z_all 7 rfl,noNames_get X G z_all 8 rfl,noNames_get X G z_all 9 rfl,noNames_get X G z_all 10 rfl⟩
  have FO_many:=fw_many.ok
  have FO_places:=fw_places.ok
  have FO_chosen:=fw_chosen.ok
  have FO_last_mark:=fw_last_mark.ok
  have FO_last_bar:=fw_last_bar.ok
  have H_l_digits:∀ base:Heap,DefOk l.prog w K mg base 1 "_law_digits" ["_law_script","_law_at","_law_parts"] (.lst .cl) F_l_digits:=fun base=>d0.ok X G (fun _ _ _ _ _ _ us hl=>len3 (P:=fun us=>bindArgs _ ⟨us,[]⟩ = pure (List.zip _ us)) hl fun _ _ _=>rfl) fun f fd a F=>ok_l_digits F T
  have H_l_place:∀ base:Heap,DefI l.prog w K mg base 1 "_law_place" ["_law_purse"] 0 (.cl) FI_l_place:=fun base=>d1.okI X G (fun _ _ _ _ _ _ us hl=>len1 (P:=fun us=>bindArgs _ ⟨us,[]⟩ = pure (List.zip _ us)) hl fun _=>rfl) fun f fd a F=>ok_l_place F T
  have H_p_check_many:∀ base:Heap,DefOk l.prog w K mg base 1 "check_many" ["many"] (.cl) F_p_check_many:=fun base=>d2.ok X G (fun _ _ _ _ _ _ us hl=>len1 (P:=fun us=>bindArgs _ ⟨us,[]⟩ = pure (List.zip _ us)) hl fun _=>rfl) fun f fd a F=>ok_p_check_many F T
  have H_w_init:∀ base:Heap,DefW l.prog w K mg base 2 "Watch" ["self","many"] ["many","places","chosen","last_mark","last_bar"] [.cl,.lst .cl,.lst .cl,.cl,.cl] FR_w_init:=fun base=>w3.ok X G (fun _ _ _ _ _ _ us hl=>len2 (P:=fun us=>bindArgs _ ⟨us,[]⟩ = pure (List.zip _ us)) hl fun _ _=>rfl) fun f fd F=>ok_w_init F T (H_p_check_many base) FO_last_bar FO_last_mark FO_chosen FO_places FO_many
  have H_p_side_between:∀ base:Heap,DefOk l.prog w K mg base 1 "side_between" ["one","other"] (.cl) F_p_side_between:=fun base=>d4.ok X G (fun _ _ _ _ _ _ us hl=>len2 (P:=fun us=>bindArgs _ ⟨us,[]⟩ = pure (List.zip _ us)) hl fun _ _=>rfl) fun f fd a F=>ok_p_side_between F T
  have H_w_way_between:∀ base:Heap,DefM l.prog w K mg base 2 "Watch" "way_between" ["self","one","other"] (.cl) F_w_way_between:=fun base=>m5.okM (fun _ _ _ _ _ _ us hl=>len3 (P:=fun us=>bindArgs _ ⟨us,[]⟩ = pure (List.zip _ us)) hl fun _ _ _=>rfl) fun f fd F=>ok_w_way_between F T (H_p_side_between base) FO_places
  have H_w_is_far:∀ base:Heap,DefM l.prog w K mg base 3 "Watch" "is_far" ["self","number","others"] (.cl) F_w_is_far:=fun base=>m6.okM (fun _ _ _ _ _ _ us hl=>len3 (P:=fun us=>bindArgs _ ⟨us,[]⟩ = pure (List.zip _ us)) hl fun _ _ _=>rfl) fun f fd F=>ok_w_is_far F T (H_w_way_between base) FO_last_mark
  have H_w_least_way:∀ base:Heap,DefM l.prog w K mg base 3 "Watch" "least_way" ["self"] (.cl) F_w_least_way:=fun base=>m7.okM (fun _ _ _ _ _ _ us hl=>len1 (P:=fun us=>bindArgs _ ⟨us,[]⟩ = pure (List.zip _ us)) hl fun _=>rfl) fun f fd F=>ok_w_least_way F T (H_w_way_between base) FO_chosen
  have H_w_raise_mark:∀ base:Heap,DefRc l.prog w K mg base 4 "Watch" "raise_mark" ["self"] ["many","places","chosen","last_mark","last_bar"] [.cl,.lst .cl,.lst .cl,.cl,.cl] FR_w_raise_mark:=fun base=>m8.okR (fun _ _ _ _ _ _ us hl=>len1 (P:=fun us=>bindArgs _ ⟨us,[]⟩ = pure (List.zip _ us)) hl fun _=>rfl) fun f fd F=>ok_w_raise_mark F T (H_w_least_way base) (H_w_is_far base) FO_chosen FO_last_bar FO_last_mark
  have H_w_come:∀ base:Heap,DefRc l.prog w K mg base 5 "Watch" "come" ["self","x","y"] ["many","places","chosen","last_mark","last_bar"] [.cl,.lst .cl,.lst .cl,.cl,.cl] FR_w_come:=fun base=>m9.okR (fun _ _ _ _ _ _ us hl=>len3 (P:=fun us=>bindArgs _ ⟨us,[]⟩ = pure (List.zip _ us)) hl fun _ _ _=>rfl) fun f fd F=>ok_w_come F T (H_w_is_far base) (H_w_raise_mark base) FO_chosen FO_many FO_places
  have H_w_posts:∀ base:Heap,DefM l.prog w K mg base 1 "Watch" "posts" ["self"] (.nw) F_w_posts:=fun base=>m10.okM (fun _ _ _ _ _ _ us hl=>len1 (P:=fun us=>bindArgs _ ⟨us,[]⟩ = pure (List.zip _ us)) hl fun _=>rfl) fun f fd F=>ok_w_posts F T  FO_chosen
  have H_w_bar:∀ base:Heap,DefM l.prog w K mg base 1 "Watch" "bar" ["self"] (.nw) F_w_bar:=fun base=>m11.okM (fun _ _ _ _ _ _ us hl=>len1 (P:=fun us=>bindArgs _ ⟨us,[]⟩ = pure (List.zip _ us)) hl fun _=>rfl) fun f fd F=>ok_w_bar F T  FO_last_bar
  have H_w_mark:∀ base:Heap,DefM l.prog w K mg base 1 "Watch" "mark" ["self"] (.cl) F_w_mark:=fun base=>m12.okM (fun _ _ _ _ _ _ us hl=>len1 (P:=fun us=>bindArgs _ ⟨us,[]⟩ = pure (List.zip _ us)) hl fun _=>rfl) fun f fd F=>ok_w_mark F T  FO_last_mark
  have H_w_way_to_post:∀ base:Heap,DefM l.prog w K mg base 3 "Watch" "way_to_post" ["self","number"] (.cl) F_w_way_to_post:=fun base=>m13.okM (fun _ _ _ _ _ _ us hl=>len2 (P:=fun us=>bindArgs _ ⟨us,[]⟩ = pure (List.zip _ us)) hl fun _ _=>rfl) fun f fd F=>ok_w_way_to_post F T (H_w_way_between base) FO_chosen
  have H_w_reach:∀ base:Heap,DefM l.prog w K mg base 4 "Watch" "reach" ["self"] (.cl) F_w_reach:=fun base=>m14.okM (fun _ _ _ _ _ _ us hl=>len1 (P:=fun us=>bindArgs _ ⟨us,[]⟩ = pure (List.zip _ us)) hl fun _=>rfl) fun f fd F=>ok_w_reach F T (H_w_way_to_post base) FO_places
  have H_l_told:∀ base:Heap,DefOk l.prog w K mg base 5 "_law_told" ["_law_watch","_law_times"] (.nw) F_l_told:=fun base=>d15.ok X G (fun _ _ _ _ _ _ us hl=>len2 (P:=fun us=>bindArgs _ ⟨us,[]⟩ = pure (List.zip _ us)) hl fun _ _=>rfl) fun f fd a F=>ok_l_told F T (H_w_posts base) (H_w_bar base) (H_w_mark base) (H_w_reach base)
  have H_w_folk:∀ base:Heap,DefM l.prog w K mg base 1 "Watch" "folk" ["self"] (.cl) F_w_folk:=fun base=>m16.okM (fun _ _ _ _ _ _ us hl=>len1 (P:=fun us=>bindArgs _ ⟨us,[]⟩ = pure (List.zip _ us)) hl fun _=>rfl) fun f fd F=>ok_w_folk F T  FO_places
  have H_l_places:∀ base:Heap,DefOk l.prog w K mg base 5 "_law_places" ["_law_watch"] (.cl) F_l_places:=fun base=>d17.ok X G (fun _ _ _ _ _ _ us hl=>len1 (P:=fun us=>bindArgs _ ⟨us,[]⟩ = pure (List.zip _ us)) hl fun _=>rfl) fun f fd a F=>ok_l_places F T (H_w_folk base) (H_w_mark base) (H_w_reach base) (H_w_posts base)
  exact d18.law X G hfa (fun _ _ _ _ _ _ s v=>.of_eq rfl) fun base f fd F=>ok_law F T (H_l_digits base) (H_l_place base) (H_w_init base) (H_w_come base) (H_l_told base) (H_l_places base)
theorem lam0:lamNames PySem.Challenge.rw_nearposts_k52_whole_watches_told_otherwi.prog = ([]:List Str):=by decide +kernel
theorem walk {l:PySem.W.OpenLaw} {q:Program} {loose:List Str} {XP:(Str → Option Value) → Heap → Prop} {YP:World → Heap → Prop} {d:DefRec} {K:Params → PySem.W.Frag} (hn:l.most = some 63) (hdf:d.params.defaults = []) (hq:∀ y ∈ lamNames l.prog,((recsOf q).find? fun e=>e.name == y).isSome = true) (hTK:∀ (w:World) (y:Str) (c p:Addr),y ∈ lamNames l.prog → PySem.W.tabIn (K w.params) y = some (c,p) → (K w.params).lookup p = none)
    (hY:∀ (w:World) (h:Heap),YP w h → (K w.params).In h)
    (F:∀ (w:World) (mg:Str → Option Value) (fa:Addr) (h:Heap),(K w.params).In h → h.Ns mainGlobals mg → mg d.name = some (.ref fa) →
      ∃ fd:FuncData,(∀ (s:Shared) (u:Value),BindsTo s fd ⟨[u],[]⟩ [("_law_script",u)]) ∧ ∀ base:Heap,(K w.params).In base → base.Ns mainGlobals mg → FnOk l.prog w (K w.params) mg base CX0 6 fa fd ["_law_script"] (spR (K w.params) .cl F_law)) :
    PySem.W.WalkO q loose XP YP l.row.toRowW d [] (fun f vs=>PySem.call f vs):=
  L2.walk_ofT (n:=63) (k:=6) (x:="_law_script") (CX:=fun _=>CX0) (sp:=fun w=>spR (K w.params) .cl F_law) hn (by decide) hdf ⟨rfl,by decide,by decide,rfl⟩ hY hq hTK F (fun _ H a ns hl hS=>⟨fun _=>False,[.list (ns.map .int)],.bool true,fun _ z=>z.elim,by rw [del_false]; exact .cons (.lst hS (DenL.ints ns)) .nil,main ns hl,fun v as H' _ _ D=>den_bl D.den⟩) fun _ _ _ _ _ z=>z
end NW
open PySem PySem.W PyProof.Rows
set_option maxRecDepth 100000 in
set_option maxHeartbeats 0 in
theorem PySem.Challenge.cw_nearposts_k52_whole_watches_told_otherwi_holds : PySem.Challenge.rw_nearposts_k52_whole_watches_told_otherwi.Holds := by
  w_on; o_law; k_head; (case hw=>w_witness2)
  k_fill
  refine NW.walk (l:=PySem.Challenge.rw_nearposts_k52_whole_watches_told_otherwi) rfl rfl ?Q ?K (fun w h Y=>PySem.W.kIn_of Y) ?F
  case Q=>exact L2.lam_q (by rw [NW.lam0]; kernel_rfl)
  case K=>exact fun w=>L2.lam_k (by rw [NW.lam0]; kernel_rfl)
  case F=>
    intro w mg fa h KX G hmg
    refine' NW.all_mk KX G hmg ?fw_many ?fw_places ?fw_chosen ?fw_last_mark ?fw_last_bar ?d0 ?d1 ?d2 ?w3 ?d4 ?m5 ?m6 ?m7 ?m8 ?m9 ?m10 ?m11 ?m12 ?m13 ?m14 ?d15 ?m16 ?d17 ?d18 ?z_all
    (case fw_many=>refine' L2.FldW.mk 139 ?qa ?q5 ?q6 ?q7 ?q8 ?q9; (case qa=>k_is); (case q5=>kernel_rfl); (case q6=>kernel_rfl); (case q7=>kernel_rfl); (case q8=>k_is); (case q9=>k_is))
    (case fw_places=>refine' L2.FldW.mk 139 ?qa ?q5 ?q6 ?q7 ?q8 ?q9; (case qa=>k_is); (case q5=>kernel_rfl); (case q6=>kernel_rfl); (case q7=>kernel_rfl); (case q8=>k_is); (case q9=>k_is))
    (case fw_chosen=>refine' L2.FldW.mk 139 ?qa ?q5 ?q6 ?q7 ?q8 ?q9; (case qa=>k_is); (case q5=>kernel_rfl); (case q6=>kernel_rfl); (case q7=>kernel_rfl); (case q8=>k_is); (case q9=>k_is))
    (case fw_last_mark=>refine' L2.FldW.mk 139 ?qa ?q5 ?q6 ?q7 ?q8 ?q9; (case qa=>k_is); (case q5=>kernel_rfl); (case q6=>kernel_rfl); (case q7=>kernel_rfl); (case q8=>k_is); (case q9=>k_is))
    (case fw_last_bar=>refine' L2.FldW.mk 139 ?qa ?q5 ?q6 ?q7 ?q8 ?q9; (case qa=>k_is); (case q5=>kernel_rfl); (case q6=>kernel_rfl); (case q7=>kernel_rfl); (case q8=>k_is); (case q9=>k_is))
    (case d0=>refine' L2.FnAt.mk _ _ ?a (L2.fun_mk ?l ?c ?k); (case a=>k_is); (case l=>k_is); (case c=>k_is); (case k=>k_is))
    (case d1=>refine' L2.FnAt.mk _ _ ?a (L2.fun_mk ?l ?c ?k); (case a=>k_is); (case l=>k_is); (case c=>k_is); (case k=>k_is))
    (case d2=>refine' L2.FnAt.mk _ _ ?a (L2.fun_mk ?l ?c ?k); (case a=>k_is); (case l=>k_is); (case c=>k_is); (case k=>k_is))
    (case w3=>refine' L2.ClsW.mk 139 67 _ ?qa ?q1 ?q2 ?q3 ?q4 (L2.fun_mk ?ql ?qc ?qk); (case qa=>k_is); (case q1=>kernel_rfl); (case q2=>k_is); (case q3=>kernel_rfl); (case q4=>kernel_rfl); (case ql=>k_is); (case qc=>k_is); (case qk=>k_is))
    (case d4=>refine' L2.FnAt.mk _ _ ?a (L2.fun_mk ?l ?c ?k); (case a=>k_is); (case l=>k_is); (case c=>k_is); (case k=>k_is))
    (case m5=>refine' L2.MethAt.mk 139 74 _ ?qa ?q5 ?q6 ?q7 ?q8 ?m1 ?m2 ?m3 (L2.fun_mk ?ql ?qc ?qk); (case qa=>k_is); (case q5=>kernel_rfl); (case q6=>kernel_rfl); (case q7=>kernel_rfl); (case q8=>k_is); (case m1=>k_is); (case m2=>kernel_rfl); (case m3=>kernel_rfl); (case ql=>k_is); (case qc=>k_is); (case qk=>k_is))
    (case m6=>refine' L2.MethAt.mk 139 79 _ ?qa ?q5 ?q6 ?q7 ?q8 ?m1 ?m2 ?m3 (L2.fun_mk ?ql ?qc ?qk); (case qa=>k_is); (case q5=>kernel_rfl); (case q6=>kernel_rfl); (case q7=>kernel_rfl); (case q8=>k_is); (case m1=>k_is); (case m2=>kernel_rfl); (case m3=>kernel_rfl); (case ql=>k_is); (case qc=>k_is); (case qk=>k_is))
    (case m7=>refine' L2.MethAt.mk 139 84 _ ?qa ?q5 ?q6 ?q7 ?q8 ?m1 ?m2 ?m3 (L2.fun_mk ?ql ?qc ?qk); (case qa=>k_is); (case q5=>kernel_rfl); (case q6=>kernel_rfl); (case q7=>kernel_rfl); (case q8=>k_is); (case m1=>k_is); (case m2=>kernel_rfl); (case m3=>kernel_rfl); (case ql=>k_is); (case qc=>k_is); (case qk=>k_is))
    (case m8=>refine' L2.MethAt.mk 139 91 _ ?qa ?q5 ?q6 ?q7 ?q8 ?m1 ?m2 ?m3 (L2.fun_mk ?ql ?qc ?qk); (case qa=>k_is); (case q5=>kernel_rfl); (case q6=>kernel_rfl); (case q7=>kernel_rfl); (case q8=>k_is); (case m1=>k_is); (case m2=>kernel_rfl); (case m3=>kernel_rfl); (case ql=>k_is); (case qc=>k_is); (case qk=>k_is))
    (case m9=>refine' L2.MethAt.mk 139 98 _ ?qa ?q5 ?q6 ?q7 ?q8 ?m1 ?m2 ?m3 (L2.fun_mk ?ql ?qc ?qk); (case qa=>k_is); (case q5=>kernel_rfl); (case q6=>kernel_rfl); (case q7=>kernel_rfl); (case q8=>k_is); (case m1=>k_is); (case m2=>kernel_rfl); (case m3=>kernel_rfl); (case ql=>k_is); (case qc=>k_is); (case qk=>k_is))
    (case m10=>refine' L2.MethAt.mk 139 112 _ ?qa ?q5 ?q6 ?q7 ?q8 ?m1 ?m2 ?m3 (L2.fun_mk ?ql ?qc ?qk); (case qa=>k_is); (case q5=>kernel_rfl); (case q6=>kernel_rfl); (case q7=>kernel_rfl); (case q8=>k_is); (case m1=>k_is); (case m2=>kernel_rfl); (case m3=>kernel_rfl); (case ql=>k_is); (case qc=>k_is); (case qk=>k_is))
    (case m11=>refine' L2.MethAt.mk 139 126 _ ?qa ?q5 ?q6 ?q7 ?q8 ?m1 ?m2 ?m3 (L2.fun_mk ?ql ?qc ?qk); (case qa=>k_is); (case q5=>kernel_rfl); (case q6=>kernel_rfl); (case q7=>kernel_rfl); (case q8=>k_is); (case m1=>k_is); (case m2=>kernel_rfl); (case m3=>kernel_rfl); (case ql=>k_is); (case qc=>k_is); (case qk=>k_is))
    (case m12=>refine' L2.MethAt.mk 139 119 _ ?qa ?q5 ?q6 ?q7 ?q8 ?m1 ?m2 ?m3 (L2.fun_mk ?ql ?qc ?qk); (case qa=>k_is); (case q5=>kernel_rfl); (case q6=>kernel_rfl); (case q7=>kernel_rfl); (case q8=>k_is); (case m1=>k_is); (case m2=>kernel_rfl); (case m3=>kernel_rfl); (case ql=>k_is); (case qc=>k_is); (case qk=>k_is))
    (case m13=>refine' L2.MethAt.mk 139 131 _ ?qa ?q5 ?q6 ?q7 ?q8 ?m1 ?m2 ?m3 (L2.fun_mk ?ql ?qc ?qk); (case qa=>k_is); (case q5=>kernel_rfl); (case q6=>kernel_rfl); (case q7=>kernel_rfl); (case q8=>k_is); (case m1=>k_is); (case m2=>kernel_rfl); (case m3=>kernel_rfl); (case ql=>k_is); (case qc=>k_is); (case qk=>k_is))
    (case m14=>refine' L2.MethAt.mk 139 136 _ ?qa ?q5 ?q6 ?q7 ?q8 ?m1 ?m2 ?m3 (L2.fun_mk ?ql ?qc ?qk); (case qa=>k_is); (case q5=>kernel_rfl); (case q6=>kernel_rfl); (case q7=>kernel_rfl); (case q8=>k_is); (case m1=>k_is); (case m2=>kernel_rfl); (case m3=>kernel_rfl); (case ql=>k_is); (case qc=>k_is); (case qk=>k_is))
    (case d15=>refine' L2.FnAt.mk _ _ ?a (L2.fun_mk ?l ?c ?k); (case a=>k_is); (case l=>k_is); (case c=>k_is); (case k=>k_is))
    (case m16=>refine' L2.MethAt.mk 139 105 _ ?qa ?q5 ?q6 ?q7 ?q8 ?m1 ?m2 ?m3 (L2.fun_mk ?ql ?qc ?qk); (case qa=>k_is); (case q5=>kernel_rfl); (case q6=>kernel_rfl); (case q7=>kernel_rfl); (case q8=>k_is); (case m1=>k_is); (case m2=>kernel_rfl); (case m3=>kernel_rfl); (case ql=>k_is); (case qc=>k_is); (case qk=>k_is))
    (case d17=>refine' L2.FnAt.mk _ _ ?a (L2.fun_mk ?l ?c ?k); (case a=>k_is); (case l=>k_is); (case c=>k_is); (case k=>k_is))
    (case d18=>refine' L2.FnAt.mk _ _ ?a (L2.fun_mk ?l ?c ?k); (case a=>k_is); (case l=>k_is); (case c=>k_is); (case k=>k_is))
    (case z_all=>kernel_rfl)
